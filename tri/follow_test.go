package tri

import (
	"math/big"
	"testing"

	"penumbra/affine"
	"penumbra/api"
	"penumbra/rat"
	"penumbra/vec"
)

// ray is where a ray begins, and its direction.
type ray struct{ o, d api.Vec }

// rays are some that meet the triangle and some that do not, from everywhere.
func rays(x api.Tri, seed uint64, n int) []ray {
	r, all := source(seed), []ray{{x.A, x.B}, {words("1/4 1/4 1"), words("0 0 -2")}, {words("1 2 3"), api.Vec{}}}
	for len(all) < n {
		o := point(r, 1+r.IntN(2))
		p := vecOf(pointOf(x, weights()[r.IntN(10)], weights()[r.IntN(10)]))
		// Ahead of the place, behind it, and at it.
		all = append(all, ray{o, vec.Scale(rat.Of(r.IntN(9)-2, 1+r.IntN(3)), vec.Sub(p, o))}, ray{p, vec.Sub(p, o)}, ray{o, point(r, 1)})
		for range 3 {
			inner := vecOf(pointOf(x, big.NewRat(r.Int64N(4), 6), big.NewRat(r.Int64N(4), 6)))
			all = append(all, ray{o, vec.Scale(rat.Of(1+r.IntN(9), 1+r.IntN(3)), vec.Sub(inner, o))})
		}
	}
	return all
}

// many are triangles: named ones, and others that are mostly not canonical.
func many(seed uint64, n int) []api.Tri {
	all, r := manyTris(), source(seed)
	for len(all) < n {
		all = append(all, anyTri(r, 1+r.IntN(2)))
	}
	return all
}

// isSameHit holds against what another ray and triangle are told.
func isSameHit(t *testing.T, o, d api.Vec, x api.Tri, want api.Meet, ok bool) {
	t.Helper()
	if ok {
		isHit(t, o, d, x, want)
	} else {
		isNoHit(t, o, d, x)
	}
}

// P8.3: a ray towards a point of the triangle, from outside its plane, meets it there, from both sides of the plane.
func TestRaysTowardsAPoint(t *testing.T) {
	r := source(7)
	inner := []*big.Rat{new(big.Rat), tiny(), big.NewRat(1, 3), big.NewRat(1, 2), minus(one(), tiny()), one()}
	for i, x := range open() {
		for j, u := range inner {
			for k, v := range inner {
				if plus(u, v).Cmp(one()) > 0 {
					continue
				}
				p := Point(x, ratOf(u), ratOf(v))
				o := []api.Vec{point(r, 2), places()[(i+7*j+k)%50]}[(i+j+k)%2]
				if rat.Sign(vec.Dot(Normal(x), vec.Sub(o, p))) == 0 {
					o = vec.Sum(o, Normal(x))
				}
				d := vec.Sub(p, o)
				isHit(t, o, d, x, meetOf(one(), u, v))
				isHit(t, vec.Sum(p, d), vec.Scale(rat.Of(-1, 1), d), x, meetOf(one(), u, v))
				isHit(t, o, vec.Scale(rat.Of(3, 7), d), x, meetOf(big.NewRat(7, 3), u, v))
				isNoHit(t, o, vec.Scale(rat.Of(-3, 7), d), x)
				isNoHit(t, p, d, x)
			}
		}
	}
}

// P8.3 and P8.2: what is told of a ray is the point: At of S, and Point of U and V.
func TestAtAndPointOfAHit(t *testing.T) {
	hits := 0
	for i, x := range many(8, 40) {
		for _, l := range rays(x, uint64(100+i), 40) {
			m, ok := Hit(l.o, l.d, x)
			isVec(t, Point(x, rat.Of(0, 1), rat.Of(0, 1)), vec.Read(x.A), x)
			if ok {
				hits++
				isVec(t, At(l.o, l.d, m.S), Point(x, m.U, m.V), l, x)
			}
		}
	}
	if hits < 300 {
		t.Errorf("only %d hits", hits)
	}
}

// upright are maps whose determinant is not 0: moves, mirrors, turns, and others of both signs, of one limb and of many.
func upright() []api.Map {
	mapOf := func(x, y, z, move string) api.Map {
		return api.Map{X: words(x), Y: words(y), Z: words(z), Move: words(move)}
	}
	all := []api.Map{
		affine.Identity(),
		mapOf("1 0 0", "0 1 0", "0 0 1", "3 -5/2 7"),
		mapOf("0 1 0", "0 0 1", "1 0 0", "1 2 3"),
		mapOf("0 1 0", "1 0 0", "0 0 1", "-1 4 0"),
		mapOf("-1 0 0", "0 -1 0", "0 0 -1", "0 0 0"),
		mapOf("2 1 0", "0 1 0", "0 0 3", "1 1 1"),
		mapOf("1 2 3", "5 7 11", "13 17 19", "23 -29 31/2"),
		mapOf("1/2 -2/3 3", "0 7/5 -11", "-13 1/17 0", "1/19 0 -5/23"),
		{X: places()[33], Y: places()[28], Z: places()[48], Move: places()[38]},
	}
	for i, n := range lengthOne() {
		all = append(all, affine.Stretch(places()[7*i%50], n, rat.Of(-1, 1)), affine.Stretch(places()[7*i%50], n, rat.Of(i-3, 4)))
	}
	var out []api.Map
	for _, m := range all {
		if rat.Sign(affine.Det(m)) != 0 {
			out = append(out, m)
		}
	}
	return out
}

// taken answers the triangle whose corners are where the map takes those of x.
func taken(m api.Map, x api.Tri) api.Tri {
	return api.Tri{A: affine.Apply(m, x.A), B: affine.Apply(m, x.B), C: affine.Apply(m, x.C)}
}

// P8.3: a map with a determinant that is not 0 takes a ray and a triangle to ones that meet likewise, mirrors too.
func TestHitsOfMappedRays(t *testing.T) {
	hits, misses := 0, 0
	for i, x := range many(9, 36) {
		for j, l := range rays(x, uint64(200+i), 16) {
			want, ok := Hit(l.o, l.d, x)
			for k, m := range upright() {
				if (i+j+k)%3 == 0 {
					isSameHit(t, affine.Apply(m, l.o), affine.Turn(m, l.d), taken(m, x), want, ok)
				}
			}
			if ok {
				hits++
			} else {
				misses++
			}
		}
	}
	if hits < 100 || misses < 100 {
		t.Errorf("%d hits and %d misses are too few", hits, misses)
	}
}

// P8.3: a map takes points of the triangle to the same ones of the triangle that it is taken to, and the normal as an area.
func TestPointsAndNormalsOfMappedTriangles(t *testing.T) {
	for i, x := range many(10, 60) {
		for j, m := range upright() {
			u, v := kinds()[(i+j)%10], kinds()[(i+3*j+1)%10]
			isVec(t, Point(taken(m, x), u, v), affine.Apply(m, Point(x, u, v)), m, x, u, v)
			isVec(t, Normal(taken(m, x)), affine.Area(m, Normal(x)), m, x)
		}
	}
}

// P8.3 asks for a determinant that is not 0: a map onto a plane leaves nothing to be met.
func TestNoHitsWhereAMapMakesFlat(t *testing.T) {
	for i, x := range many(11, 30) {
		for j, n := range lengthOne() {
			m := affine.Stretch(places()[(i+3*j)%50], n, rat.Of(0, 1))
			for _, l := range rays(x, uint64(300+i), 5) {
				isNoHit(t, affine.Apply(m, l.o), affine.Turn(m, l.d), taken(m, x))
			}
		}
	}
}

// P8.3: a mirror, twice, is nothing: and once, a triangle's area stays, its direction is mirrored.
func TestUnitOfMirroredTriangles(t *testing.T) {
	for i, x := range []api.Tri{unit(), triWords("0 0 0", "1 -2 0", "1 0 -1"), triWords("7 1 -1/2", "7 -3 -1/2", "7 1 5/2")} {
		direction, area, _ := Unit(x)
		for j, n := range lengthOne() {
			m := affine.Stretch(places()[(i+3*j)%50], n, rat.Of(-1, 1))
			isUnit(t, taken(m, x), affine.Area(m, direction), area)
			isUnit(t, taken(m, taken(m, x)), direction, area)
		}
	}
}

// P8.3: in each order of the corners there is a hit or none, as far as in each other one, and at the same point.
func TestHitInEachOrderOfTheCorners(t *testing.T) {
	hits, misses := 0, 0
	for i, x := range many(12, 40) {
		for _, l := range rays(x, uint64(400+i), 30) {
			m, ok := Hit(l.o, l.d, x)
			if !ok {
				misses++
				for _, order := range []string{"ABC", "BCA", "CAB", "ACB", "CBA", "BAC"} {
					isNoHit(t, l.o, l.d, bent(x, order))
				}
				continue
			}
			hits++
			rest := rat.Sub(rat.Sub(rat.Of(1, 1), m.U), m.V)
			weightOf := map[byte]api.Rat{'A': rest, 'B': m.U, 'C': m.V}
			for _, order := range []string{"ABC", "BCA", "CAB", "ACB", "CBA", "BAC"} {
				isHit(t, l.o, l.d, bent(x, order), api.Meet{S: m.S, U: weightOf[order[1]], V: weightOf[order[2]]})
			}
		}
	}
	if hits < 200 || misses < 200 {
		t.Errorf("%d hits and %d misses are too few", hits, misses)
	}
}

// P8.3: along a direction k times as long S is that over k; with a k that is not above 0 there is no hit.
func TestHitAlongLongerDirections(t *testing.T) {
	for i, x := range many(13, 30) {
		for _, l := range rays(x, uint64(500+i), 12) {
			m, ok := Hit(l.o, l.d, x)
			for _, k := range kinds() {
				d := vec.Scale(k, l.d)
				if share, isNumber := rat.Div(m.S, k); isNumber && rat.Sign(k) > 0 {
					isSameHit(t, l.o, d, x, api.Meet{S: share, U: m.U, V: m.V}, ok)
				} else if ok {
					isNoHit(t, l.o, d, x)
				}
			}
		}
	}
}

// P8.3: what begins nearer, or farther, on the same line meets the same point, but for what begins at it, or behind it.
func TestHitFromAlongTheLine(t *testing.T) {
	for i, x := range many(14, 30) {
		for _, l := range rays(x, uint64(600+i), 12) {
			m, ok := Hit(l.o, l.d, x)
			if !ok {
				continue
			}
			for _, s := range ways() {
				isHitWhere(t, At(l.o, l.d, ratOf(s)), l.d, x, minus(valueOf(m.S), s), valueOf(m.U), valueOf(m.V))
			}
			isNoHit(t, At(l.o, l.d, m.S), l.d, x)
		}
	}
}
