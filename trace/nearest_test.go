package trace

import (
	"maps"
	"math/big"
	"slices"
	"testing"

	"penumbra/api"
	"penumbra/bvh"
)

// P12.1: the document's examples.
func TestNearestOfDocumentsExamples(t *testing.T) {
	unit := triWords("0 0 0", "1 0 0", "0 1 0")
	both := []api.Tri{unit, unit}
	for _, x := range treesOver(both) {
		isFound(t, x, both, "1/4 1/4 1", "0 0 -2", 0, "1/2 1/4 1/4")
		isMissed(t, x, both, words("1/4 1/4 0"), words("1 0 0"))
		isMissed(t, x, both, words("1/4 1/4 0"), words("-1 1/2 0"))
	}
}

// P12.1: no triangles: -1, 0 0 0 and false.
func TestNearestOfNoTriangles(t *testing.T) {
	for _, x := range []api.Tree{{}, {Nodes: []api.Node{}, Order: []int{}}} {
		for _, l := range [][]api.Tri{nil, {}, five()[:0]} {
			for i, o := range places() {
				isMissed(t, x, l, o, places()[(7*i+3)%50])
				isMissed(t, x, l, o, api.Vec{})
			}
		}
	}
}

// P12.1: one triangle, met within, on each side and at each corner, from both sides of its plane; just beside it there is none.
func TestNearestOfOneTriangle(t *testing.T) {
	tops := []string{"0", "1/3", "1/2", "1", "-1/1000", "1001/1000"}
	for i, x := range open() {
		trees := treesOver([]api.Tri{x})
		for j, u := range tops {
			for k, v := range tops {
				p, from := pointOf(x, valueOf(word(u)), valueOf(word(v))), valuesOf(places()[(i+7*j+k)%50])
				for _, times := range []int64{1, -2} {
					o := sumOf(p, scaled(big.NewRat(times, 1), from))
					isAsTried(t, trees, []api.Tri{x}, vecOf(o), vecOf(lessOf(p, o)))
				}
			}
		}
	}
}

// floors are triangles one above the other, at the heights 1, 2 and so on, in any order, and each one's height.
func floors(n int, seed uint64) ([]api.Tri, []int) {
	heights := source(seed).Perm(n)
	var l []api.Tri
	for i := range heights {
		heights[i]++
		z := ratOf(big.NewRat(int64(heights[i]), 1))
		l = append(l, api.Tri{A: api.Vec{X: word("-1"), Y: word("-1"), Z: z}, B: api.Vec{X: word("5"), Y: word("-1"), Z: z}, C: api.Vec{X: word("-1"), Y: word("5"), Z: z}})
	}
	return l, heights
}

// P12.1: from each place between floors the next one is the first, upwards and downwards; of none above or below -1.
func TestNearestOfFloors(t *testing.T) {
	for _, n := range []int{1, 2, 3, 7, 20} {
		l, heights := floors(n, uint64(n))
		for _, x := range treesOver(l) {
			for at := range n + 1 {
				for _, part := range []*big.Rat{tiny(), big.NewRat(1, 2), minus(one(), tiny())} {
					z := plus(big.NewRat(int64(at), 1), part)
					o := vecOf(values{new(big.Rat), big.NewRat(1, 1), z})
					up, down := slices.Index(heights, at+1), slices.Index(heights, at)
					if at == n {
						isMissed(t, x, l, o, words("0 0 3"))
					} else {
						isTold(t, x, l, o, words("0 0 3"), up, ratOf(over(minus(big.NewRat(int64(at+1), 1), z), big.NewRat(3, 1))))
					}
					if at == 0 {
						isMissed(t, x, l, o, words("0 0 -1/2"))
					} else {
						isTold(t, x, l, o, words("0 0 -1/2"), down, ratOf(times(part, big.NewRat(2, 1))))
					}
				}
			}
		}
	}
}

// P12.1: what is at the beginning is not met: from each floor it is the next one.
func TestNearestFromAFloor(t *testing.T) {
	l, heights := floors(9, 4)
	for _, x := range treesOver(l) {
		for at := 1; at <= 9; at++ {
			o := vecOf(values{big.NewRat(1, 3), new(big.Rat), big.NewRat(int64(at), 1)})
			if at == 9 {
				isMissed(t, x, l, o, words("0 0 1"))
			} else {
				isTold(t, x, l, o, words("0 0 1"), slices.Index(heights, at+1), word("1"))
			}
			if at == 1 {
				isMissed(t, x, l, o, words("0 0 -1"))
			} else {
				isTold(t, x, l, o, words("0 0 -4"), slices.Index(heights, at-1), word("1/4"))
			}
		}
	}
}

// P12.1: all triangles behind the beginning, or at it: none is met.
func TestNearestBehind(t *testing.T) {
	l, _ := floors(6, 5)
	for _, x := range treesOver(l) {
		for _, o := range []string{"0 0 6", "0 0 7", "1/2 0 13/2", "-1 -1 6", "5 -1 6", "2 2 6"} {
			for _, d := range []string{"0 0 1", "1 2 3", "-1/7 0 1/9", "0 -1 1/1000000"} {
				isMissed(t, x, l, words(o), words(d))
			}
		}
		for _, o := range []string{"0 0 1", "0 0 1/2", "2 2 1"} {
			isMissed(t, x, l, words(o), words("1/2 -1/3 -1"))
		}
	}
}

// P12.1: a ray without a direction meets nothing, wherever it stands, however its 0 is written.
func TestNearestWithoutDirection(t *testing.T) {
	l := append(five(), open()...)
	for _, x := range treesOver(l) {
		for i, zero := range zeros() {
			d := api.Vec{X: zero, Y: zeros()[(i+3)%len(zeros())], Z: zeros()[(i+7)%len(zeros())]}
			isMissed(t, x, l, l[i].A, d)
			isMissed(t, x, l, vecOf(pointOf(l[i%5], big.NewRat(1, 3), big.NewRat(1, 3))), d)
			isMissed(t, x, l, words("100 100 100"), d)
		}
	}
}

// orders answers the numbers from 0 to n - 1 in each order.
func orders(n int) [][]int {
	if n == 0 {
		return [][]int{{}}
	}
	var all [][]int
	for _, shorter := range orders(n - 1) {
		for place := range n {
			all = append(all, slices.Insert(slices.Clone(shorter), place, n-1))
		}
	}
	return all
}

// P12.1: of triangles in one place the least number is told, in whichever leaf it is, and whichever box begins first.
func TestNearestOfTrianglesInOnePlace(t *testing.T) {
	unit := triWords("0 0 0", "4 0 0", "0 4 0")
	l := slices.Repeat([]api.Tri{unit}, 4)
	forms := []api.Tree{
		{Nodes: []api.Node{leaf(0, 4)}},
		{Nodes: []api.Node{inner(1, 2), leaf(0, 2), leaf(2, 2)}},
		{Nodes: []api.Node{inner(1, 2), inner(3, 4), inner(5, 6), leaf(0, 1), leaf(1, 1), leaf(2, 1), leaf(3, 1)}},
		{Nodes: []api.Node{inner(1, 2), leaf(0, 1), inner(3, 4), leaf(1, 1), inner(5, 6), leaf(2, 1), leaf(3, 1)}},
	}
	for _, form := range forms {
		for i, order := range orders(4) {
			x := snug(api.Tree{Nodes: form.Nodes, Order: order}, l)
			// The flat boxes begin where the triangle is; some begin earlier.
			for place := range x.Nodes {
				if i>>(place%5)&1 == 1 {
					x.Nodes[place].Box = boxWords("-9 -9 -9", "9 9 9")
				}
			}
			fits(t, x, l)
			isFound(t, x, l, "1 1 2", "0 0 -1", 0, "2 1/4 1/4")
			isFound(t, x, l, "1 1 -1/2", "0 0 1", 0, "1/2 1/4 1/4")
		}
	}
}

// P12.1: of triangles that meet at an edge, or in a point, or cut one another there, the least number is told, with its own U and V.
func TestNearestOfTheSameS(t *testing.T) {
	// All have the point 1 1 1; the ray goes to it.
	l := []api.Tri{
		triWords("1 1 1", "2 0 0", "2 3 0"), triWords("0 1 1", "2 1 1", "0 9 2"), triWords("0 0 1", "3 0 1", "0 3 1"),
		triWords("5 -3 1", "-3 5 1", "1 1 7"), triWords("0 5 0", "1 1 1", "5 0 0"), triWords("4 4 3/2", "-2 7 1/2", "1 1 1"),
	}
	told := []string{"3 0 0", "3 1/2 0", "3 1/3 1/3", "3 1/2 0", "3 1 0", "3 0 1"}
	o, d := "1/2 -2 5/2", "1/6 1 -1/2"
	for _, order := range orders(4) {
		for more := range 3 {
			var some []api.Tri
			for _, i := range order {
				some = append(some, l[(i+2*more)%6])
			}
			for _, x := range treesOver(some) {
				isFound(t, x, some, o, d, 0, told[(order[0]+2*more)%6])
			}
		}
	}
}

// P12.1: which is the nearest hangs on the triangles alone, not on whose box begins first.
func TestNearestIsNotThatOfTheNearestBox(t *testing.T) {
	// The first one's box begins at once, but it is met late; the second one's box begins later.
	late, early := triWords("9 -1 -1", "-9 -1 19", "9 9 -1"), triWords("3 -1 -1", "3 -1 5", "3 5 -1")
	for i, l := range [][]api.Tri{{late, early}, {early, late}} {
		for _, x := range treesOver(l) {
			isTold(t, x, l, words("0 0 0"), words("1 0 0"), 1-i, word("3"))
			isTold(t, x, l, words("4 0 0"), words("1 0 0"), i, word("41/10"))
		}
	}
}

// P12.1: S that differ by very little, or are very great.
func TestNearestByLittle(t *testing.T) {
	var l []api.Tri
	for _, x := range []*big.Rat{plus(one(), tiny()), one(), plus(plus(one(), tiny()), tiny()), minus(one(), tiny()), plus(one(), tiny())} {
		n := ratOf(x)
		l = append(l, api.Tri{A: api.Vec{X: n, Y: word("-1"), Z: word("-1")}, B: api.Vec{X: n, Y: word("3"), Z: word("-1")}, C: api.Vec{X: n, Y: word("-1"), Z: word("3")}})
	}
	huge := ratOf(over(one(), times(tiny(), tiny())))
	for _, x := range treesOver(l) {
		isTold(t, x, l, words("0 0 0"), words("1 0 0"), 3, ratOf(minus(one(), tiny())))
		isTold(t, x, l, words("2 0 0"), words("-1 0 0"), 2, ratOf(minus(one(), plus(tiny(), tiny()))))
		isTold(t, x, l, words("1 0 0"), words("1 0 0"), 0, ratOf(tiny()))
		isTold(t, x, l, words("1 0 0"), words("-1 0 0"), 3, ratOf(tiny()))
		isTold(t, x, l, api.Vec{X: huge}, words("-1 0 0"), 2, ratOf(minus(valueOf(huge), plus(one(), plus(tiny(), tiny())))))
	}
}

// P12.1: rays along an axis, with one or two parts 0, of each sign, along sides and in planes of sides, through corners; flat triangles of each axis.
func TestNearestOnALattice(t *testing.T) {
	r, hits := source(11), 0
	for i := range 24 {
		l := latticeTris(r, 1+i%12)
		trees := treesOver(l)
		for _, d := range latticeDirections() {
			if isAsTried(t, trees, l, latticePoint(r, -1, 4), d) {
				hits++
			}
			// From a corner, and through it.
			corner := l[r.IntN(len(l))].B
			isAsTried(t, trees[:3], l, corner, d)
			isAsTried(t, trees, l, vecOf(lessOf(valuesOf(corner), scaled(big.NewRat(3, 1), valuesOf(d)))), d)
		}
		for range 10 {
			if o, d := aimed(r, l); isAsTried(t, trees, l, o, d) {
				hits++
			}
		}
	}
	if hits < 200 {
		t.Errorf("only %d hits", hits)
	}
}

// P12.1: all rays of a small lattice towards the sides of a box that stands around two triangles in it.
func TestNearestAlongSidesOfABox(t *testing.T) {
	l := []api.Tri{triWords("0 0 0", "2 0 2", "0 2 2"), triWords("2 2 0", "0 0 2", "2 0 0"), triWords("0 0 1", "2 0 1", "2 2 1")}
	trees := treesOver(l)
	for x := range 5 {
		for y := range 5 {
			for z := range 5 {
				o := vecOf(values{big.NewRat(int64(x)-1, 1), big.NewRat(int64(y)-1, 1), big.NewRat(int64(z)-1, 1)})
				for _, d := range latticeDirections() {
					isAsTried(t, trees, l, o, d)
				}
			}
		}
	}
}

// P12.1: triangles whose corners lie in a row, or are one, are never met, also where they lie ahead of others, and have the same place.
func TestNearestOfCornersInARow(t *testing.T) {
	wall := triWords("-9 -9 -3", "18 -9 -3", "-9 18 -3")
	l := slices.Concat(shut(), []api.Tri{wall}, shut(), []api.Tri{wall})
	for _, x := range treesOver(l) {
		isFound(t, x, l, "0 0 5", "0 0 -1", len(shut()), "8 1/3 1/3")
		isFound(t, x, l, "1/2 1/2 5", "1/16 1/16 -1", len(shut()), "8 10/27 10/27")
	}
	trees := treesOver(shut())
	for _, x := range shut() {
		for _, d := range append(latticeDirections(), places()[33]) {
			p := pointOf(x, big.NewRat(1, 2), big.NewRat(1, 4))
			if isAsTried(t, trees, shut(), vecOf(lessOf(p, valuesOf(d))), d) {
				t.Errorf("met: %v", d)
			}
		}
	}
}

// P12.1: lists of all kinds of triangles, by trees of all kinds, half of the rays towards one of them.
func TestNearestOfKindsOfLists(t *testing.T) {
	r, hits := source(12), 0
	for _, n := range []int{1, 2, 5, 13} {
		lists := kindsOfLists(n)
		// Sorted, so that each list is given the same rays in each run.
		for _, name := range slices.Sorted(maps.Keys(lists)) {
			l := lists[name]
			trees := treesOver(l)
			for i := range 12 {
				if isAsTried(t, trees, l, anyPoint(r), anyPoint(r)) {
					hits++
				}
				o, d := towards(r, l[i%n])
				if isAsTried(t, trees, l, o, d) {
					hits++
				}
			}
		}
	}
	if hits < 150 {
		t.Errorf("only %d hits", hits)
	}
}

// P12.1: any triangles, with numbers that are mostly not canonical.
func TestNearestOfAny(t *testing.T) {
	r, hits := source(13), 0
	for i := range 80 {
		l := anyTris(r, 1+i%25)
		trees := []api.Tree{someTree(r, l), someTree(r, l)}
		for range 6 {
			o, d := towards(r, l[r.IntN(len(l))])
			if isAsTried(t, trees, l, o, d) {
				hits++
			}
		}
		isAsTried(t, trees, l, anyPoint(r), anyPoint(r))
	}
	if hits < 130 {
		t.Errorf("only %d hits", hits)
	}
}

// P12.1: as many triangles as Build takes; and trees over more that fit by the words, very deep ones and one leaf.
func TestNearestOfMany(t *testing.T) {
	l, heights := floors(api.MaxTree, 6)
	built, _ := bvh.Build(l)
	for _, at := range []int{0, 1, 2047, 2048, 4000, 4095} {
		o := vecOf(values{new(big.Rat), new(big.Rat), big.NewRat(int64(2*at+1), 2)})
		isTold(t, built, l, o, words("0 0 1"), slices.Index(heights, at+1), word("1/2"))
	}
	l, heights = floors(6000, 7)
	one := wide(api.Tree{Nodes: []api.Node{leaf(0, 6000)}, Order: source(8).Perm(6000)})
	for i, x := range []api.Tree{chain(6000, true), chain(6000, false), one} {
		for place := range x.Nodes {
			x.Nodes[place].Box = boxWords("-9 -9 -9", "9 9 6000")
		}
		at := []int{0, 3333, 5999}[i]
		o := vecOf(values{big.NewRat(1, 1), new(big.Rat), big.NewRat(int64(2*at+1), 2)})
		isTold(t, x, l, o, words("0 0 1/4"), slices.Index(heights, at+1), word("2"))
		isMissed(t, x, l, words("1 0 6000"), words("0 0 1"))
		isMissed(t, x, l, words("1 0 1"), words("0 0 -1"))
	}
}
