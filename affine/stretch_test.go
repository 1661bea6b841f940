package affine

import (
	"math/big"
	"testing"

	"penumbra/api"
)

// stretched reckons where x is taken, by another reckoner.
func stretched(p, n, x values, k *big.Rat) values {
	return sumOf(x, scaled(times(minus(k, big.NewRat(1, 1)), dotOf(lessOf(x, p), n)), n))
}

// stretchOf reckons the map from where 0 0 0 and the axes' points are taken.
func stretchOf(p, n api.Vec, k api.Rat) api.Map {
	taken := func(x values) values { return stretched(valuesOf(p), valuesOf(n), x, valueOf(k)) }
	move := taken(valuesOf(origin()))
	return mapOf(columnsOf(func(d values) values { return lessOf(taken(d), move) }), move)
}

func isStretch(t *testing.T, p, n api.Vec, k api.Rat) {
	t.Helper()
	isMap(t, Stretch(p, n, k), stretchOf(p, n, k), p, n, k)
}

// P7.3: along the axes, by numbers below 0, 0, 1 and above 1, with p at 0 0 0 and off it.
func TestStretchAlongAxes(t *testing.T) {
	isMap(t, Stretch(words("0 0 1"), words("0 0 1"), word("-1")), mapWords("1 0 0", "0 1 0", "0 0 -1", "0 0 2"))
	isVec(t, Apply(Stretch(words("0 0 1"), words("0 0 1"), word("-1")), words("2 3 5")), words("2 3 -3"))
	for _, c := range []struct{ k, move string }{{"-1", "10"}, {"0", "5"}, {"1/2", "5/2"}, {"1", "0"}, {"2", "-5"}, {"7/3", "-20/3"}, {"-3", "20"}} {
		isMap(t, Stretch(words("5 7 -11"), words("1 0 0"), word(c.k)), mapWords(c.k+" 0 0", "0 1 0", "0 0 1", c.move+" 0 0"), c)
		isMap(t, Stretch(words("7 5 -11"), words("0 1 0"), word(c.k)), mapWords("1 0 0", "0 "+c.k+" 0", "0 0 1", "0 "+c.move+" 0"), c)
		isMap(t, Stretch(words("7 -11 5"), words("0 0 1"), word(c.k)), mapWords("1 0 0", "0 1 0", "0 0 "+c.k, "0 0 "+c.move), c)
		isMap(t, Stretch(words("7 -11 5"), words("0 0 -1"), word(c.k)), mapWords("1 0 0", "0 1 0", "0 0 "+c.k, "0 0 "+c.move), c)
		isMap(t, Stretch(words("0 9 -11"), words("1 0 0"), word(c.k)), mapWords(c.k+" 0 0", "0 1 0", "0 0 1", "0 0 0"), c)
	}
}

// P7.3: along directions that are not axes, of length 1.
func TestStretchAlongNamedDirections(t *testing.T) {
	isMap(t, Stretch(words("0 0 0"), words("2/3 1/3 2/3"), word("-1")), mapWords("1/9 -4/9 -8/9", "-4/9 7/9 -4/9", "-8/9 -4/9 1/9", "0 0 0"))
	isMap(t, Stretch(words("9 0 0"), words("2/3 1/3 2/3"), word("-1")), mapWords("1/9 -4/9 -8/9", "-4/9 7/9 -4/9", "-8/9 -4/9 1/9", "8 4 8"))
	isMap(t, Stretch(words("0 0 -9/2"), words("2/3 1/3 2/3"), word("-1")), mapWords("1/9 -4/9 -8/9", "-4/9 7/9 -4/9", "-8/9 -4/9 1/9", "-4 -2 -4"))
	isMap(t, Stretch(words("5 0 5"), words("0 3/5 4/5"), word("3/2")), mapWords("1 0 0", "0 59/50 6/25", "0 6/25 33/25", "0 -6/5 -8/5"))
	isMap(t, Stretch(words("5 5 0"), words("-3/5 4/5 0"), word("0")), mapWords("16/25 12/25 0", "12/25 9/25 0", "0 0 1", "-3/5 4/5 0"))
}

// P7.3: along directions whose length is not 1, also 0 0 0: n counts twice, as the words say.
func TestStretchAlongOtherLengths(t *testing.T) {
	isMap(t, Stretch(words("0 0 1"), words("0 0 2"), word("-1")), mapWords("1 0 0", "0 1 0", "0 0 -7", "0 0 8"))
	isMap(t, Stretch(words("0 0 1"), words("0 0 1/2"), word("3")), mapWords("1 0 0", "0 1 0", "0 0 3/2", "0 0 -1/2"))
	isMap(t, Stretch(words("1 0 0"), words("1 2 3"), word("2")), mapWords("2 2 3", "2 5 6", "3 6 10", "-1 -2 -3"))
	isMap(t, Stretch(words("0 1 0"), words("1 2 3"), word("2")), mapWords("2 2 3", "2 5 6", "3 6 10", "-2 -4 -6"))
	isMap(t, Stretch(words("0 0 1"), words("1 2 3"), word("2")), mapWords("2 2 3", "2 5 6", "3 6 10", "-3 -6 -9"))
	isMap(t, Stretch(words("1 -1 1/2"), words("-1 2 1/3"), word("1/4")), mapWords("1/4 3/2 1/4", "3/2 -2 -1/2", "1/4 -1/2 11/12", "17/8 -17/4 -17/24"))
	isMap(t, Stretch(words("2 3 5"), words("1 1 0"), word("0")), mapWords("0 -1 0", "-1 0 0", "0 0 1", "5 5 0"))
	for _, k := range kinds() {
		isMap(t, Stretch(words("2 3 5"), origin(), k), standing(), k)
		isMap(t, Stretch(words("2 3 5"), api.Vec{}, k), standing(), k)
	}
	for _, n := range places() {
		isMap(t, Stretch(words("2 3 5"), n, word("1")), standing(), n)
		isMap(t, Stretch(words("2 3 5"), n, above(list(6, 7), list(6, 7, 0))), standing(), n)
	}
}

// P7.3: a k that is read as 0 is the map onto the plane.
func TestStretchByZero(t *testing.T) {
	for _, k := range zeros() {
		isMap(t, Stretch(words("4 -7 5"), words("0 0 1"), k), mapWords("1 0 0", "0 1 0", "0 0 0", "0 0 5"), k)
		isStretch(t, words("4 -7 5"), words("1 2 -1/3"), k)
	}
}

// P7.3: all kinds of numbers, canonical and not; one Vec as the point and as the direction, one number in several places.
func TestStretchOfKinds(t *testing.T) {
	points := []api.Vec{{}, words("4 -7 5"), words("1/2 0 -2/3"), places()[38]}
	for _, n := range append(places(), lengthOne()...) {
		for i, k := range kinds() {
			p := points[i%len(points)]
			isStretch(t, p, n, k)
			isStretch(t, n, p, k)
			isStretch(t, loose(p), loose(n), looseNumber(k))
			isStretch(t, n, n, k)
		}
		isStretch(t, n, n, n.X)
		isStretch(t, words("1 2 3"), n, n.Z)
	}
}

// P7.3: numbers that are mostly not canonical; and where the map takes points.
func TestStretchOfAny(t *testing.T) {
	r := source(8)
	for range 1200 {
		p, n, k, x := point(r, 1+r.IntN(3)), point(r, 1+r.IntN(3)), number(r, 1+r.IntN(3)), point(r, 1+r.IntN(3))
		isStretch(t, p, n, k)
		isVec(t, Apply(Stretch(p, n, k), x), vecOf(stretched(valuesOf(p), valuesOf(n), valuesOf(x), valueOf(k))), p, n, k, x)
	}
}
