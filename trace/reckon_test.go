package trace

import (
	"math/big"
	"math/rand/v2"
	"slices"
	"strings"
	"testing"

	"penumbra/api"
	"penumbra/bvh"
)

// solved answers the only s, u and v at which the ray is at the triangle's point, by Gauss' steps; false, if there are none, or many.
func solved(o, d values, x api.Tri) (values, bool) {
	a := valuesOf(x.A)
	back, b, c, right := scaled(big.NewRat(-1, 1), d), lessOf(valuesOf(x.B), a), lessOf(valuesOf(x.C), a), lessOf(o, a)
	var l [3][4]*big.Rat
	for row := range l {
		l[row] = [4]*big.Rat{back[row], b[row], c[row], right[row]}
	}
	for place := range 3 {
		found := place
		for found < 3 && l[found][place].Sign() == 0 {
			found++
		}
		if found == 3 {
			return values{}, false
		}
		l[place], l[found] = l[found], l[place]
		for row := range 3 {
			if row != place && l[row][place].Sign() != 0 {
				k := over(l[row][place], l[place][place])
				for i := range 4 {
					l[row][i] = minus(l[row][i], times(k, l[place][i]))
				}
			}
		}
	}
	return values{over(l[0][3], l[0][0]), over(l[1][3], l[1][1]), over(l[2][3], l[2][2])}, true
}

// met answers S, U and V, if the ray meets the triangle.
func met(o, d values, x api.Tri) (values, bool) {
	at, ok := solved(o, d, x)
	return at, ok && at[0].Sign() > 0 && at[1].Sign() >= 0 && at[2].Sign() >= 0 && plus(at[1], at[2]).Cmp(one()) <= 0
}

func meetOf(at values) api.Meet { return api.Meet{S: ratOf(at[0]), U: ratOf(at[1]), V: ratOf(at[2])} }

// tried answers what Nearest should: all triangles are tried one by one, from the last one on.
func tried(l []api.Tri, o, d api.Vec) (int, api.Meet, bool) {
	number, nearest := -1, valuesOf(api.Vec{})
	for i, x := range slices.Backward(l) {
		if at, ok := met(valuesOf(o), valuesOf(d), x); ok && (number == -1 || at[0].Cmp(nearest[0]) <= 0) {
			number, nearest = i, at
		}
	}
	return number, meetOf(nearest), number > -1
}

// isBetween answers what Blocked should.
func isBetween(l []api.Tri, p, q api.Vec) bool {
	return slices.ContainsFunc(l, func(x api.Tri) bool {
		at, ok := met(valuesOf(p), lessOf(valuesOf(q), valuesOf(p)), x)
		return ok && at[0].Cmp(one()) < 0
	})
}

// isNearest holds what Nearest answers, limb by limb, against what is wanted.
func isNearest(t *testing.T, x api.Tree, l []api.Tri, o, d api.Vec, number int, want api.Meet, isWanted bool) {
	t.Helper()
	got, meet, ok := Nearest(x, l, o, d)
	if got != number || ok != isWanted || !equal(meet.S, want.S) || !equal(meet.U, want.U) || !equal(meet.V, want.V) {
		t.Errorf("from %v along %v: got %d, %v, %v, want %d, %v, %v, by %v over %v", o, d, got, meet, ok, number, want, isWanted, x, l)
	}
}

// isMissed holds against -1, 0 0 0 and false.
func isMissed(t *testing.T, x api.Tree, l []api.Tri, o, d api.Vec) {
	t.Helper()
	isNearest(t, x, l, o, d, -1, api.Meet{S: none(), U: none(), V: none()}, false)
}

// isFound holds against a number, and S, U and V as a text.
func isFound(t *testing.T, x api.Tree, l []api.Tri, o, d string, number int, at string) {
	t.Helper()
	w := strings.Fields(at)
	isNearest(t, x, l, words(o), words(d), number, api.Meet{S: word(w[0]), U: word(w[1]), V: word(w[2])}, true)
}

// isTold holds against a number, S, and the U and V that belong to them.
func isTold(t *testing.T, x api.Tree, l []api.Tri, o, d api.Vec, number int, s api.Rat) {
	t.Helper()
	at, ok := met(valuesOf(o), valuesOf(d), l[number])
	if !ok || at[0].Cmp(valueOf(s)) != 0 {
		t.Fatalf("S is %v, %v, not %v", at[0], ok, s)
	}
	isNearest(t, x, l, o, d, number, meetOf(at), true)
}

// isAsTried holds each tree against all triangles tried one by one, and answers whether one is met.
func isAsTried(t *testing.T, trees []api.Tree, l []api.Tri, o, d api.Vec) bool {
	t.Helper()
	number, want, ok := tried(l, o, d)
	for _, x := range trees {
		isNearest(t, x, l, o, d, number, want, ok)
	}
	return ok
}

// isBlocked holds each tree against what is wanted, from p to q and from q to p.
func isBlocked(t *testing.T, trees []api.Tree, l []api.Tri, p, q api.Vec, want bool) {
	t.Helper()
	for _, x := range trees {
		if there, back := Blocked(x, l, p, q), Blocked(x, l, q, p); there != want || back != want {
			t.Errorf("from %v to %v: %v and %v, want %v, by %v over %v", p, q, there, back, want, x, l)
		}
	}
}

// fits ends the test, if the tree does not fit: then nothing would be promised of it.
func fits(t *testing.T, x api.Tree, l []api.Tri) {
	t.Helper()
	if !bvh.Check(x, l) {
		t.Fatalf("does not fit %d triangles: %v", len(l), x)
	}
}

// greater answers the tree with boxes of which some are greater than need be, each in its own way.
func greater(x api.Tree) api.Tree {
	return changed(x, func(x *api.Tree) {
		for place := range x.Nodes {
			for side, number := range sides(&x.Nodes[place].Box) {
				if (place+side)%3 > 0 {
					*number = outwards(*number, side, big.NewRat(int64(1+place%5), int64(1+side)))
				}
			}
		}
	})
}

// treesOver are trees that fit, of all forms: Build's, one leaf, lopsided ones, with greater boxes, and another order.
func treesOver(l []api.Tri) []api.Tree {
	r := source(uint64(len(l)))
	built, _ := bvh.Build(l)
	trees := []api.Tree{built, greater(built), someTree(r, l), someTree(r, l)}
	if len(l) > 0 {
		one := snug(api.Tree{Nodes: []api.Node{leaf(0, len(l))}, Order: r.Perm(len(l))}, l)
		deep := chain(len(l), true)
		slices.Reverse(deep.Order)
		trees = append(trees, one, snug(deep, l), greater(snug(chain(len(l), false), l)))
	}
	for i, x := range trees {
		if !bvh.Check(x, l) {
			panic("tree " + string(rune('0'+i)) + " does not fit")
		}
	}
	return trees
}

// towards answers a place, and the direction from there to a point of the triangle, or to one just beside it.
func towards(r *rand.Rand, x api.Tri) (api.Vec, api.Vec) {
	parts := []*big.Rat{new(big.Rat), big.NewRat(1, 2), big.NewRat(1, 3), big.NewRat(2, 3), tiny(), one(), big.NewRat(-1, 9)}
	o := anyPoint(r)
	return o, vecOf(lessOf(pointOf(x, parts[r.IntN(7)], parts[r.IntN(5)]), valuesOf(o)))
}

// latticePoint answers a point of three whole numbers from least to most.
func latticePoint(r *rand.Rand, least, most int) api.Vec {
	number := func() *big.Rat { return big.NewRat(int64(least+r.IntN(most-least+1)), 1) }
	return vecOf(values{number(), number(), number()})
}

// aimed answers a ray from a lattice's point to one of the triangles: to a corner, a side, or within.
func aimed(r *rand.Rand, l []api.Tri) (api.Vec, api.Vec) {
	parts := []*big.Rat{new(big.Rat), big.NewRat(1, 3), big.NewRat(1, 2)}
	o := latticePoint(r, -1, 4)
	return o, vecOf(lessOf(pointOf(l[r.IntN(len(l))], parts[r.IntN(3)], parts[r.IntN(3)]), valuesOf(o)))
}

// latticeTris are triangles with corners of few whole numbers: many are flat along an axis, lines, points, or the same.
func latticeTris(r *rand.Rand, n int) []api.Tri {
	l := make([]api.Tri, n)
	for i := range l {
		l[i] = api.Tri{A: latticePoint(r, 0, 3), B: latticePoint(r, 0, 3), C: latticePoint(r, 0, 3)}
		flat := latticePoint(r, 0, 3)
		switch r.IntN(5) {
		case 0:
			l[i].A.X, l[i].B.X, l[i].C.X = flat.X, flat.X, flat.X
		case 1:
			l[i].A.Y, l[i].B.Y, l[i].C.Y = flat.Y, flat.Y, flat.Y
		case 2:
			l[i].A.Z, l[i].B.Z, l[i].C.Z = flat.Z, flat.Z, flat.Z
		}
	}
	return l
}

// latticeDirections are all directions of three numbers -1, 0 and 1.
func latticeDirections() []api.Vec {
	var all []api.Vec
	for i := range int64(27) {
		all = append(all, vecOf(values{big.NewRat(i%3-1, 1), big.NewRat(i/3%3-1, 1), big.NewRat(i/9-1, 1)}))
	}
	return all
}

// open are triangles that have an area, in planes at right angles to an axis and aslant.
func open() []api.Tri {
	return []api.Tri{
		triWords("0 0 0", "1 0 0", "0 1 0"),
		triWords("0 0 0", "0 1 0", "1 0 0"),
		triWords("5 0 0", "5 2 0", "5 0 3"),
		triWords("0 -7 1", "4 -7 1", "0 -7 2"),
		triWords("-1/2 2/3 0", "3/7 -5 1/11", "13/4 0 -1"),
		triWords("1 1 1", "1000001 1000000 1000001", "2 1 1"),
		triWords("2/3 1/3 2/3", "-2/3 2/3 1/3", "-1/3 -2/3 2/3"),
		{A: places()[33], B: places()[28], C: places()[48]},
		{A: places()[38], B: places()[44], C: places()[43]},
		looseTri(triWords("-1 -2 3", "7 -2 9/2", "0 5 3")),
	}
}

// shut are triangles whose corners lie in a row, in each order, or of which two or three are the same.
func shut() []api.Tri {
	long := places()[33]
	return []api.Tri{
		{},
		triWords("0 0 0", "0 0 0", "0 0 0"),
		triWords("1 -2 3/4", "1 -2 3/4", "1 -2 3/4"),
		triWords("1 2 3", "1 2 3", "4 -5 6"),
		triWords("1 2 3", "4 -5 6", "1 2 3"),
		triWords("4 -5 6", "1 2 3", "1 2 3"),
		triWords("0 0 0", "1 0 0", "2 0 0"),
		triWords("1 1 0", "1 2 0", "1 0 0"),
		triWords("0 0 -4", "0 0 4", "0 0 1"),
		triWords("1/2 1/3 -1/5", "3/2 7/3 14/5", "-1/2 -5/3 -16/5"),
		{A: long, B: loose(long), C: api.Vec{}},
	}
}
