package tri

import (
	"math/big"
	"testing"

	"penumbra/api"
)

func meetOf(s, u, v *big.Rat) api.Meet { return api.Meet{S: ratOf(s), U: ratOf(u), V: ratOf(v)} }

func isMeet(t *testing.T, got, want api.Meet, what ...any) {
	t.Helper()
	isNumber(t, got.S, want.S, "S", what)
	isNumber(t, got.U, want.U, "U", what)
	isNumber(t, got.V, want.V, "V", what)
}

// isHit holds against a wanted Meet, which is canonical, and against true.
func isHit(t *testing.T, o, d api.Vec, x api.Tri, want api.Meet) {
	t.Helper()
	got, ok := Hit(o, d, x)
	isMeet(t, got, want, o, d, x)
	if !ok {
		t.Errorf("Hit %v %v %v: false", o, d, x)
	}
}

// isNoHit holds against 0, 0, 0 and false.
func isNoHit(t *testing.T, o, d api.Vec, x api.Tri) {
	t.Helper()
	got, ok := Hit(o, d, x)
	isMeet(t, got, api.Meet{S: none(), U: none(), V: none()}, o, d, x)
	if ok {
		t.Errorf("Hit %v %v %v: true", o, d, x)
	}
}

// isHitWhere holds against a hit, if s, u and v say one, else against none.
func isHitWhere(t *testing.T, o, d api.Vec, x api.Tri, s, u, v *big.Rat) bool {
	t.Helper()
	if s.Sign() <= 0 || u.Sign() < 0 || v.Sign() < 0 || plus(u, v).Cmp(one()) > 0 {
		isNoHit(t, o, d, x)
		return false
	}
	isHit(t, o, d, x, meetOf(s, u, v))
	return true
}

// solved answers the only s, u and v with At(o, d, s) = Point(t, u, v) by Gauss' steps; false, if there are none, or many.
func solved(o, d api.Vec, x api.Tri) (values, bool) {
	a := valuesOf(x.A)
	back, b, c, right := scaled(big.NewRat(-1, 1), valuesOf(d)), lessOf(valuesOf(x.B), a), lessOf(valuesOf(x.C), a), lessOf(valuesOf(o), a)
	var l [3][4]*big.Rat
	for row := range l {
		l[row] = [4]*big.Rat{back[row], b[row], c[row], right[row]}
	}
	for place := range 3 {
		found := place
		for found < 3 && l[found][place].Sign() == 0 {
			found++
		}
		if found == 3 {
			return values{}, false
		}
		l[place], l[found] = l[found], l[place]
		for row := range 3 {
			if row != place {
				k := over(l[row][place], l[place][place])
				for i := range 4 {
					l[row][i] = minus(l[row][i], times(k, l[place][i]))
				}
			}
		}
	}
	return values{over(l[0][3], l[0][0]), over(l[1][3], l[1][1]), over(l[2][3], l[2][2])}, true
}

// isSolved holds Hit against another reckoner, and tells whether there is a hit.
func isSolved(t *testing.T, o, d api.Vec, x api.Tri) bool {
	t.Helper()
	l, ok := solved(o, d, x)
	if ok != (dotOf(normalOf(x), valuesOf(d)).Sign() != 0) {
		t.Fatalf("the reckoners differ at %v %v %v", o, d, x)
	}
	if !ok {
		isNoHit(t, o, d, x)
		return false
	}
	return isHitWhere(t, o, d, x, l[0], l[1], l[2])
}

// P8.2: the document's examples.
func TestHitOfDocumentsExamples(t *testing.T) {
	quarter := words("1/4 1/4 1")
	isHit(t, quarter, words("0 0 -2"), unit(), api.Meet{S: word("1/2"), U: word("1/4"), V: word("1/4")})
	isNoHit(t, words("1 1 1"), words("0 0 -1"), unit())
	isNoHit(t, quarter, words("0 0 1"), unit())
	isNoHit(t, words("0 0 0"), words("0 0 -2"), unit())
	isNoHit(t, words("0 0 0"), words("0 0 1"), unit())
}

// P8.2: rays aslant, and a triangle aslant, by hand.
func TestHitOfNamedRays(t *testing.T) {
	for _, c := range []struct{ o, d, s, u, v string }{
		{"0 0 1", "1/4 1/2 -1", "1", "1/4", "1/2"}, {"0 0 -1", "1/4 1/2 1", "1", "1/4", "1/2"}, {"0 0 2", "1 3 -16", "1/8", "1/8", "3/8"},
		{"5 -7 3", "-14 22 -9", "1/3", "1/3", "1/3"}, {"1/2 -1 -1/2", "0 5/2 1", "1/2", "1/2", "1/4"}, {"100 100 100", "-1 -1 -1", "100", "0", "0"},
	} {
		isHit(t, words(c.o), words(c.d), unit(), api.Meet{S: word(c.s), U: word(c.u), V: word(c.v)})
	}
	for _, c := range []struct{ o, d, s, u, v string }{
		{"1 91/24 0", "0 0 1", "10/3", "1/3", "1/4"}, {"1 91/24 40/3", "0 0 -2", "5", "1/3", "1/4"},
		{"0 91/24 10/3", "1/7 0 0", "7", "1/3", "1/4"}, {"1 0 10/3", "0 91/6 0", "1/4", "1/3", "1/4"}, {"0 0 0", "6 91/4 20", "1/6", "1/3", "1/4"},
	} {
		isHit(t, words(c.o), words(c.d), skew(), api.Meet{S: word(c.s), U: word(c.u), V: word(c.v)})
	}
}

// P8.2: within, on each side, at each corner, and beside each of them by much and by very little.
func TestHitAtEachPlaceOfATriangle(t *testing.T) {
	for _, c := range []struct {
		u, v string
		ok   bool
	}{
		{"1/3", "1/3", true}, {"1/100", "1/100", true}, {"98/100", "1/100", true}, {"1/100", "98/100", true},
		{"0", "1/2", true}, {"1/2", "0", true}, {"1/2", "1/2", true}, {"1/3", "2/3", true}, {"99/100", "1/100", true},
		{"0", "0", true}, {"1", "0", true}, {"0", "1", true},
		{"-1/1000000", "1/2", false}, {"1/2", "-1/1000000", false}, {"1/2", "500001/1000000", false}, {"500001/1000000", "1/2", false},
		{"-1/1000000", "0", false}, {"0", "-1/1000000", false}, {"1000001/1000000", "0", false}, {"0", "1000001/1000000", false},
		{"1", "1/1000000", false}, {"1/1000000", "1", false}, {"-1/1000000", "1", false}, {"1", "-1/1000000", false}, {"1000001/1000000", "-1/1000000", false},
		{"-1", "1/2", false}, {"1/2", "-1", false}, {"1", "1", false}, {"2", "-1", false}, {"-1", "2", false}, {"-1", "-1", false}, {"0", "2", false}, {"2", "0", false}, {"5", "7", false},
	} {
		for _, d := range []string{"0 0 -4", "0 0 4", "3 -2 1/2", "-1/7 5 -9"} {
			o := vecOf(sumOf(values{valueOf(word(c.u)), valueOf(word(c.v)), new(big.Rat)}, scaled(big.NewRat(-1, 4), valuesOf(words(d)))))
			if c.ok {
				isHit(t, o, words(d), unit(), api.Meet{S: word("1/4"), U: word(c.u), V: word(c.v)})
			} else {
				isNoHit(t, o, words(d), unit())
			}
		}
	}
}

// weights are numbers below 0, 0, between, 1 and above 1, also ones that are all but 0 and all but 1.
func weights() []*big.Rat {
	e := tiny()
	return []*big.Rat{big.NewRat(-2, 1), opposite(e), new(big.Rat), e, big.NewRat(2, 7), big.NewRat(1, 2), minus(one(), e), one(), plus(one(), e), big.NewRat(9, 4)}
}

// ways are how far a ray goes: below 0, 0 and above 0.
func ways() []*big.Rat {
	return []*big.Rat{big.NewRat(-3, 2), opposite(tiny()), new(big.Rat), tiny(), big.NewRat(2, 5), one(), valueOf(kinds()[6])}
}

// across are directions of which most go along no plane of the open triangles.
func across() []api.Vec {
	return []api.Vec{words("0 0 1"), words("0 0 -2/3"), words("1 0 0"), words("0 -5 0"), words("3 -2 1/2"), words("-1/7 5 -9"), places()[33], places()[38]}
}

// P8.2: rays that are laid to meet the plane at each place, from each way, from both sides; S, U and V are known.
func TestHitOfLaidRays(t *testing.T) {
	hits, misses := 0, 0
	for i, x := range open() {
		for j, u := range weights() {
			for k, v := range weights() {
				for l, s := range ways() {
					d := across()[(i+j+2*k+3*l)%8]
					if dotOf(normalOf(x), valuesOf(d)).Sign() == 0 {
						continue
					}
					o := vecOf(lessOf(pointOf(x, u, v), scaled(s, valuesOf(d))))
					if isHitWhere(t, o, d, x, s, u, v) {
						hits++
					} else {
						misses++
					}
				}
			}
		}
	}
	if hits < 500 || misses < 500 {
		t.Errorf("%d hits and %d misses are too few", hits, misses)
	}
}

// P8.2: S above 0, by much and by very little, is a hit; 0 and below 0 is none.
func TestHitByHowFar(t *testing.T) {
	for _, x := range open() {
		for _, s := range ways() {
			for _, k := range ways() {
				if k.Sign() == 0 {
					continue
				}
				p, d := pointOf(x, big.NewRat(1, 3), big.NewRat(1, 5)), scaled(k, sumOf(normalOf(x), values{big.NewRat(1, 9), new(big.Rat), tiny()}))
				isHitWhere(t, vecOf(lessOf(p, scaled(s, d))), vecOf(d), x, s, big.NewRat(1, 3), big.NewRat(1, 5))
			}
		}
	}
}

// P8.2: along the plane there is no hit: from within the triangle, from beside it, towards it and away, from above and below.
func TestHitAlongThePlane(t *testing.T) {
	isNoHit(t, words("1/4 1/4 0"), words("1 0 0"), unit())
	isNoHit(t, words("-1 1/4 0"), words("1 0 0"), unit())
	isNoHit(t, words("-1 0 0"), words("1 0 0"), unit())
	isNoHit(t, words("-1 1/4 1"), words("1 0 0"), unit())
	isNoHit(t, words("-1 1/4 -1"), words("1 0 0"), unit())
	isNoHit(t, words("0 0 0"), words("1 1 0"), unit())
	for _, x := range open() {
		a, n := valuesOf(x.A), normalOf(x)
		toB, toC := lessOf(valuesOf(x.B), a), lessOf(valuesOf(x.C), a)
		for i, k := range weights() {
			for _, l := range weights() {
				d := sumOf(scaled(k, toB), scaled(l, toC))
				p := pointOf(x, l, weights()[(i+3)%10])
				for _, off := range []*big.Rat{new(big.Rat), tiny(), big.NewRat(-3, 1)} {
					isNoHit(t, vecOf(sumOf(p, scaled(off, n))), vecOf(d), x)
				}
			}
		}
	}
}

// P8.2: what is all but along the plane meets it.
func TestHitAllButAlongThePlane(t *testing.T) {
	for _, x := range open() {
		a := valuesOf(x.A)
		toB, n := lessOf(valuesOf(x.B), a), normalOf(x)
		for _, slope := range []*big.Rat{tiny(), opposite(tiny())} {
			d := sumOf(toB, scaled(slope, n))
			isHit(t, vecOf(lessOf(pointOf(x, big.NewRat(1, 2), big.NewRat(1, 4)), d)), vecOf(d), x, meetOf(one(), big.NewRat(1, 2), big.NewRat(1, 4)))
			isNoHit(t, vecOf(lessOf(pointOf(x, big.NewRat(1, 2), opposite(tiny())), d)), vecOf(d), x)
		}
	}
}

// P8.2: triangles whose corners lie in a row are never met, wherever the ray goes: through a corner, between them, beside.
func TestHitOfCornersInARow(t *testing.T) {
	for _, x := range shut() {
		for i, d := range append(across(), api.Vec{}) {
			for _, u := range weights() {
				isNoHit(t, vecOf(lessOf(pointOf(x, u, weights()[(i+4)%10]), valuesOf(d))), d, x)
			}
			isNoHit(t, words("1 2 3"), d, x)
			isNoHit(t, x.A, d, x)
		}
		isNoHit(t, api.Vec{}, x.B, x)
		isNoHit(t, x.A, x.B, looseTri(x))
	}
}

// P8.2: a ray without a direction meets nothing, wherever it stands, however its 0 is written.
func TestHitWithoutDirection(t *testing.T) {
	for _, x := range manyTris() {
		for i, zero := range zeros() {
			d := api.Vec{X: zero, Y: zeros()[(i+3)%len(zeros())], Z: zeros()[(i+7)%len(zeros())]}
			isNoHit(t, x.A, d, x)
			isNoHit(t, vecOf(pointOf(x, big.NewRat(1, 3), big.NewRat(1, 3))), d, x)
			isNoHit(t, words("1 -2 3"), d, x)
		}
	}
}

// P8.2: one Vec as the ray's begin, its direction and a corner.
func TestHitOfSharedArguments(t *testing.T) {
	hits := 0
	for _, p := range append(places(), api.Vec{}) {
		isNoHit(t, p, p, api.Tri{A: p, B: p, C: p})
		for _, x := range open() {
			for _, corner := range []api.Vec{x.A, x.B, x.C} {
				for _, ray := range [][2]api.Vec{{corner, p}, {p, corner}, {corner, corner}, {p, p}, {x.A, x.B}, {x.C, x.A}} {
					if isSolved(t, ray[0], ray[1], x) {
						hits++
					}
				}
			}
		}
		isSolved(t, p, p, api.Tri{A: p, B: words("5 -7 11"), C: words("1/2 3 0")})
		isSolved(t, words("1 2 3"), p, api.Tri{A: words("5 -7 11"), B: p, C: words("1/2 3 0")})
		isSolved(t, p, words("1 2 3"), api.Tri{A: words("5 -7 11"), B: words("1/2 3 0"), C: p})
	}
	if hits < 50 {
		t.Errorf("only %d hits", hits)
	}
}

// P8.2: from each place along each direction.
func TestHitOfKinds(t *testing.T) {
	hits := 0
	for i, o := range places() {
		for j, d := range places() {
			x := open()[(i+j)%10]
			if isSolved(t, o, d, x) {
				hits++
			}
			if (i+j)%3 == 0 {
				isSolved(t, loose(o), loose(d), looseTri(x))
			}
			isSolved(t, o, d, api.Tri{A: words("9 0 0"), B: places()[(i+17)%50], C: places()[(j+31)%50]})
		}
	}
	if hits < 50 {
		t.Errorf("only %d hits", hits)
	}
}

// P8.2: numbers that are mostly not canonical; half of the rays go towards the triangle.
func TestHitOfAny(t *testing.T) {
	r, hits := source(6), 0
	for i := range 4000 {
		x, o, d := anyTri(r, 1+r.IntN(3)), point(r, 1+r.IntN(3)), point(r, 1+r.IntN(3))
		if i%2 == 0 {
			u, v := big.NewRat(r.Int64N(9), 8), big.NewRat(r.Int64N(9), 8)
			d = vecOf(lessOf(pointOf(x, u, v), valuesOf(o)))
		}
		if isSolved(t, o, d, x) {
			hits++
		}
	}
	if hits < 300 {
		t.Errorf("only %d hits", hits)
	}
}
