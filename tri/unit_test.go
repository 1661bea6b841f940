package tri

import (
	"math/big"
	"testing"

	"penumbra/api"
	"penumbra/frame"
	"penumbra/vec"
)

// rootOf answers the number, not below 0, whose square is a; false, if there is none.
func rootOf(a *big.Rat) (*big.Rat, bool) {
	num, den := new(big.Int).Sqrt(a.Num()), new(big.Int).Sqrt(a.Denom())
	root := new(big.Rat).SetFrac(num, den)
	return root, times(root, root).Cmp(a) == 0
}

// isUnit holds against a direction and an area, both canonical, and against true.
func isUnit(t *testing.T, x api.Tri, direction api.Vec, area api.Rat) {
	t.Helper()
	got, size, ok := Unit(x)
	isVec(t, got, direction, x)
	isNumber(t, size, area, x)
	if !ok {
		t.Errorf("Unit %v: false", x)
	}
}

// isNoUnit holds against 0 0 0, 0 and false.
func isNoUnit(t *testing.T, x api.Tri) {
	t.Helper()
	got, size, ok := Unit(x)
	isVec(t, got, origin(), x)
	isNumber(t, size, none(), x)
	if ok {
		t.Errorf("Unit %v: true", x)
	}
}

// isUnitOrNone holds against another reckoner, and tells whether there is one.
func isUnitOrNone(t *testing.T, x api.Tri) bool {
	t.Helper()
	n := normalOf(x)
	length, ok := rootOf(dotOf(n, n))
	if !ok || length.Sign() == 0 {
		isNoUnit(t, x)
		return false
	}
	isUnit(t, x, vecOf(scaled(over(one(), length), n)), ratOf(times(big.NewRat(1, 2), length)))
	return true
}

// P8.1: the document's example; areas below 1/2 and above, directions along axes and along none, both ways round.
func TestUnitOfNamedTriangles(t *testing.T) {
	for _, c := range []struct{ a, b, c, direction, back, area string }{
		{"0 0 0", "1 0 0", "0 1 0", "0 0 1", "0 0 -1", "1/2"},
		{"0 0 0", "0 1 0", "0 0 1", "1 0 0", "-1 0 0", "1/2"},
		{"0 0 0", "0 0 1", "1 0 0", "0 1 0", "0 -1 0", "1/2"},
		{"0 0 0", "3 0 0", "0 4 0", "0 0 1", "0 0 -1", "6"},
		{"7 -9 5/2", "10 -9 5/2", "7 -5 5/2", "0 0 1", "0 0 -1", "6"},
		{"0 -9 -9", "0 18 -9", "0 -9 18", "1 0 0", "-1 0 0", "729/2"},
		{"0 0 0", "1/3 0 0", "0 1/5 0", "0 0 1", "0 0 -1", "1/30"},
		{"0 0 0", "1 -2 0", "1 0 -1", "2/3 1/3 2/3", "-2/3 -1/3 -2/3", "3/2"},
		{"1 1 1", "3/2 0 1", "3/2 1 1/2", "2/3 1/3 2/3", "-2/3 -1/3 -2/3", "3/8"},
		{"0 0 0", "3 0 -4", "0 5 0", "4/5 0 3/5", "-4/5 0 -3/5", "25/2"},
		{"0 0 0", "6 12 0", "1 0 1", "2/3 -1/3 -2/3", "-2/3 1/3 2/3", "9"},
	} {
		isUnit(t, triWords(c.a, c.b, c.c), words(c.direction), word(c.area))
		isUnit(t, triWords(c.b, c.c, c.a), words(c.direction), word(c.area))
		isUnit(t, triWords(c.a, c.c, c.b), words(c.back), word(c.area))
		isUnit(t, looseTri(triWords(c.c, c.b, c.a)), words(c.back), word(c.area))
	}
}

// P8.1: normals whose length is no quotient of naturals: its square's numerator, its denominator, or both are no squares.
func TestUnitWithoutLength(t *testing.T) {
	for _, x := range []api.Tri{
		triWords("0 0 0", "1 0 0", "0 1 1"), triWords("1 0 0", "0 1 0", "0 0 1"), triWords("0 0 0", "1 0 0", "0 1 2"),
		triWords("0 0 0", "1/3 0 0", "0 1 1"), triWords("0 0 0", "1 0 0", "0 1/3 1/3"), triWords("5 7 -1/2", "6 7 -1/2", "5 8 1/2"),
		triWords("0 0 0", "1 0 0", "0 1/2 1/3"), triWords("0 0 0", "1 1 0", "0 1 1"), skew(),
		greater(triWords("0 0 0", "1 0 0", "0 1 1"), tiny()), greater(skew(), valueOf(kinds()[9])),
		moved(triWords("0 0 0", "1 0 0", "0 1 1"), places()[38]),
	} {
		for _, order := range []string{"ABC", "BCA", "CAB", "ACB", "CBA", "BAC"} {
			isNoUnit(t, bent(x, order))
			isNoUnit(t, looseTri(bent(x, order)))
		}
	}
}

// P8.1: a normal 0 0 0 has a length, 0, but no direction.
func TestUnitOfCornersInARow(t *testing.T) {
	for _, x := range shut() {
		for _, order := range []string{"ABC", "BCA", "CAB", "ACB", "CBA", "BAC"} {
			isNoUnit(t, bent(x, order))
			isNoUnit(t, looseTri(bent(x, order)))
		}
	}
	for _, p := range places() {
		isNoUnit(t, api.Tri{A: p, B: p, C: p})
		isNoUnit(t, api.Tri{A: p, B: p, C: words("1 2 3")})
		isNoUnit(t, api.Tri{A: p, B: words("1 2 3"), C: p})
		isNoUnit(t, api.Tri{A: words("1 2 3"), B: p, C: p})
	}
}

// lengthOne are directions of length 1.
func lengthOne() []api.Vec {
	return []api.Vec{
		words("0 0 1"), words("0 0 -1"), words("1 0 0"), words("0 -1 0"),
		words("2/3 1/3 2/3"), words("-6/7 2/7 -3/7"), words("0 3/5 4/5"), words("-3/5 4/5 0"),
	}
}

// P8.1: triangles that are laid in planes with a normal of length 1, anywhere there, of all sizes: their areas are known.
func TestUnitOfTrianglesInPlanes(t *testing.T) {
	r := source(4)
	for _, n := range lengthOne() {
		f, ok := frame.Of(n)
		if !ok {
			t.Fatal(n)
		}
		for range 60 {
			p := point(r, 1+r.IntN(3))
			a, b, c, d := number(r, 2), number(r, 2), number(r, 2), number(r, 2)
			x := api.Tri{A: p, B: vec.Sum(p, vec.Scale(a, f.E1), vec.Scale(b, f.E2)), C: vec.Sum(p, vec.Scale(c, f.E1), vec.Scale(d, f.E2))}
			twice := minus(times(valueOf(a), valueOf(d)), times(valueOf(b), valueOf(c)))
			if twice.Sign() == 0 {
				isNoUnit(t, x)
				continue
			}
			way := crossOf(valuesOf(f.E1), valuesOf(f.E2))
			isUnit(t, x, vecOf(scaled(big.NewRat(int64(twice.Sign()), 1), way)), ratOf(times(big.NewRat(1, 2), new(big.Rat).Abs(twice))))
		}
	}
}

// P8.1: moved, the triangle has the same direction and area; k times as great, k times k the area, also with k below 0.
func TestUnitOfMovedAndGreaterTriangles(t *testing.T) {
	for i, x := range []api.Tri{unit(), triWords("0 0 0", "1 -2 0", "1 0 -1"), triWords("7 1 -1/2", "7 -3 -1/2", "7 1 5/2")} {
		direction, area, _ := Unit(x)
		for j, p := range places() {
			k := valueOf(kinds()[(i+j)%10])
			isUnit(t, moved(x, p), direction, area)
			if k.Sign() == 0 {
				isNoUnit(t, greater(x, k))
				continue
			}
			isUnit(t, greater(x, k), direction, ratOf(times(times(k, k), valueOf(area))))
		}
	}
}

// P8.1: all kinds of numbers, and numbers that are mostly not canonical; some have a direction, some not.
func TestUnitOfManyTriangles(t *testing.T) {
	all, r, found := places(), source(5), 0
	for i, p := range all {
		for j, q := range all {
			if isUnitOrNone(t, api.Tri{A: p, B: q, C: all[(i+j+11)%len(all)]}) {
				found++
			}
		}
	}
	for range 800 {
		x := anyTri(r, 1+r.IntN(2))
		// In a plane at right angles to an axis each normal has a length.
		if r.IntN(2) == 0 {
			x.A.Z, x.B.Z = x.C.Z, x.C.Z
		}
		if isUnitOrNone(t, x) {
			found++
		}
	}
	if found < 300 {
		t.Errorf("only %d have a direction", found)
	}
}
