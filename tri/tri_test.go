package tri

import (
	"math/big"
	"testing"

	"penumbra/api"
)

// isNormal holds Normal against another reckoner.
func isNormal(t *testing.T, x api.Tri) {
	t.Helper()
	isVec(t, Normal(x), vecOf(normalOf(x)), x)
}

// P8.1: the document's example; along each axis, and each number by itself, from each corner's numbers.
func TestNormalOfNamedTriangles(t *testing.T) {
	for _, c := range []struct{ a, b, c, normal string }{
		{"0 0 0", "1 0 0", "0 1 0", "0 0 1"}, {"0 0 0", "0 1 0", "0 0 1", "1 0 0"}, {"0 0 0", "0 0 1", "1 0 0", "0 1 0"},
		{"0 0 0", "2 0 0", "0 3 0", "0 0 6"}, {"0 0 0", "0 2 0", "0 0 3", "6 0 0"}, {"0 0 0", "0 0 2", "3 0 0", "0 6 0"},
		{"0 0 0", "-2 0 0", "0 3 0", "0 0 -6"}, {"0 0 0", "2 0 0", "0 -3 0", "0 0 -6"}, {"0 0 0", "-2 0 0", "0 -3 0", "0 0 6"},
		{"0 0 5", "1 0 5", "0 1 5", "0 0 1"}, {"7 -3 0", "8 -3 0", "7 -2 0", "0 0 1"}, {"1/2 1/3 1/5", "3/2 1/3 1/5", "1/2 4/3 1/5", "0 0 1"},
		{"1 0 0", "0 1 0", "0 0 1", "1 1 1"}, {"0 0 0", "1 2 3", "5 7 11", "1 4 -3"}, {"1 2 3", "0 0 0", "5 7 11", "-1 -4 3"}, {"1 2 3", "5 7 11", "0 0 0", "1 4 -3"},
		{"1 2 3", "4 7 -2", "-3 5/2 11", "85/2 -4 43/2"}, {"0 0 0", "1/2 0 0", "0 1/3 0", "0 0 1/6"}, {"0 0 0", "1 0 0", "0 1 1", "0 -1 1"},
	} {
		isVec(t, Normal(triWords(c.a, c.b, c.c)), words(c.normal), c)
	}
}

// P8.1: by the order of the corners the normal stays, or is turned round.
func TestNormalByTheOrderOfTheCorners(t *testing.T) {
	for _, x := range append(open(), greater(skew(), tiny())) {
		n := normalOf(x)
		for _, order := range []string{"ABC", "BCA", "CAB"} {
			isVec(t, Normal(bent(x, order)), vecOf(n), order, x)
		}
		for _, order := range []string{"ACB", "CBA", "BAC"} {
			isVec(t, Normal(bent(x, order)), vecOf(scaled(big.NewRat(-1, 1), n)), order, x)
		}
	}
}

// P8.1: corners in a row, and corners that are the same, have the normal 0 0 0.
func TestNormalOfCornersInARow(t *testing.T) {
	for _, x := range shut() {
		for _, order := range []string{"ABC", "BCA", "CAB", "ACB", "CBA", "BAC"} {
			isVec(t, Normal(bent(x, order)), origin(), order, x)
			isVec(t, Normal(looseTri(bent(x, order))), origin(), order, x)
		}
	}
	for _, p := range places() {
		isVec(t, Normal(api.Tri{A: p, B: p, C: p}), origin(), p)
		isVec(t, Normal(api.Tri{A: loose(p), B: p, C: p}), origin(), p)
	}
}

// P8.1: all kinds of numbers, and numbers that are mostly not canonical.
func TestNormalOfManyTriangles(t *testing.T) {
	all, r := places(), source(1)
	for i, p := range all {
		for j, q := range all {
			isNormal(t, api.Tri{A: p, B: q, C: all[(i+j+11)%len(all)]})
		}
		isNormal(t, api.Tri{A: p, B: loose(p), C: all[(i+7)%len(all)]})
	}
	for range 1500 {
		isNormal(t, anyTri(r, 1+r.IntN(4)))
	}
}

// isPoint holds Point against another reckoner.
func isPoint(t *testing.T, x api.Tri, u, v api.Rat) {
	t.Helper()
	isVec(t, Point(x, u, v), vecOf(pointOf(x, valueOf(u), valueOf(v))), x, u, v)
}

// P8.1: u and v below 0, 0, between, 1 and above 1, each by itself and both.
func TestPointOfNamedNumbers(t *testing.T) {
	for _, c := range []struct{ u, v, point string }{
		{"0", "0", "1 2 3"}, {"1", "0", "4 7 -2"}, {"0", "1", "-3 5/2 11"},
		{"-1", "0", "-2 -3 8"}, {"-1/5", "0", "2/5 1 4"}, {"1/2", "0", "5/2 9/2 1/2"}, {"2", "0", "7 12 -7"}, {"6/5", "0", "23/5 8 -3"},
		{"0", "-1", "5 3/2 -5"}, {"0", "-1/4", "2 15/8 1"}, {"0", "1/2", "-1 9/4 7"}, {"0", "3", "-11 7/2 27"}, {"0", "5/4", "-4 21/8 13"},
		{"1/2", "1/2", "1/2 19/4 9/2"}, {"1", "1", "0 15/2 6"}, {"-1", "2", "-10 -2 24"}, {"2", "-1", "11 23/2 -15"}, {"-2", "-2", "3 -9 -3"}, {"1/3", "1/4", "1 91/24 10/3"},
	} {
		isVec(t, Point(skew(), word(c.u), word(c.v)), words(c.point), c)
	}
	isVec(t, Point(unit(), word("1"), word("0")), words("1 0 0"))
	isVec(t, Point(unit(), word("-2/3"), word("9/4")), words("-2/3 9/4 0"))
}

// P8.1: numbers that are read as 0 leave their side out, and corners in a row have points too.
func TestPointOfZeros(t *testing.T) {
	for i, zero := range zeros() {
		isVec(t, Point(skew(), zero, zeros()[(i+4)%len(zeros())]), words("1 2 3"), zero)
		isVec(t, Point(skew(), zero, word("2")), words("-7 3 19"), zero)
		isVec(t, Point(skew(), word("-2"), zero), words("-5 -8 13"), zero)
		isVec(t, Point(api.Tri{A: api.Vec{X: zero}, B: words("1 2 3"), C: words("-5 7 0")}, word("3"), word("1/2")), words("1/2 19/2 9"), zero)
	}
	isVec(t, Point(api.Tri{}, word("3"), word("-5")), origin())
	isVec(t, Point(triWords("1 2 3", "1 2 3", "1 2 3"), word("3"), word("-5")), words("1 2 3"))
	isVec(t, Point(triWords("0 0 0", "1 0 0", "2 0 0"), word("3"), word("-5")), words("-7 0 0"))
}

// P8.1: all kinds of numbers, canonical and not; one number as both, and one of a corner's numbers as both.
func TestPointOfKinds(t *testing.T) {
	r := source(2)
	for _, x := range manyTris() {
		for i, u := range kinds() {
			for _, v := range kinds() {
				isPoint(t, x, u, v)
			}
			isPoint(t, looseTri(x), looseNumber(u), looseNumber(kinds()[(i+3)%10]))
			isPoint(t, x, u, u)
		}
		isPoint(t, x, x.A.X, x.A.X)
		isPoint(t, x, x.B.Y, x.C.Z)
	}
	for range 1500 {
		isPoint(t, anyTri(r, 1+r.IntN(4)), number(r, 1+r.IntN(4)), number(r, 1+r.IntN(4)))
	}
}

// isAt holds At against another reckoner.
func isAt(t *testing.T, o, d api.Vec, s api.Rat) {
	t.Helper()
	isVec(t, At(o, d, s), vecOf(atOf(o, d, valueOf(s))), o, d, s)
}

// P8.1: s below 0, 0 and above 0; each number by itself.
func TestAtOfNamedNumbers(t *testing.T) {
	for _, c := range []struct{ s, point string }{
		{"0", "1 -2 1/3"}, {"1", "5 -2 -14/3"}, {"2", "9 -2 -29/3"}, {"1/2", "3 -2 -13/6"}, {"-1", "-3 -2 16/3"}, {"-1/15", "11/15 -2 2/3"}, {"-7/4", "-6 -2 109/12"},
	} {
		isVec(t, At(words("1 -2 1/3"), words("4 0 -5"), word(c.s)), words(c.point), c)
	}
	isVec(t, At(words("1/4 1/4 1"), words("0 0 -2"), word("1/2")), words("1/4 1/4 0"))
	isVec(t, At(origin(), words("2 0 0"), word("3")), words("6 0 0"))
	isVec(t, At(origin(), words("0 2 0"), word("3")), words("0 6 0"))
	isVec(t, At(origin(), words("0 0 2"), word("3")), words("0 0 6"))
	isVec(t, At(words("5 7 11"), origin(), word("3")), words("5 7 11"))
	isVec(t, At(api.Vec{}, api.Vec{}, api.Rat{}), origin())
	for _, zero := range zeros() {
		isVec(t, At(words("5 7 11"), words("1 2 3"), zero), words("5 7 11"), zero)
	}
}

// P8.1: all kinds of numbers, canonical and not; one Vec as both, and one of its numbers too.
func TestAtOfKinds(t *testing.T) {
	all, r := places(), source(3)
	for i, o := range all {
		for j, s := range kinds() {
			d := all[(i+11*j+3)%len(all)]
			isAt(t, o, d, s)
			isAt(t, loose(o), loose(d), looseNumber(s))
			isAt(t, o, o, s)
		}
		isAt(t, o, o, o.X)
		isAt(t, words("1 2 3"), o, o.Z)
	}
	for range 1500 {
		isAt(t, point(r, 1+r.IntN(5)), point(r, 1+r.IntN(5)), number(r, 1+r.IntN(5)))
	}
}
