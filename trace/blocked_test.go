package trace

import (
	"math/big"
	"slices"
	"testing"

	"penumbra/api"
	"penumbra/bvh"
)

// P12.2: a triangle between p and q blocks; one through p, through q, behind p and behind q does not; nor does one beside.
func TestBlockedOfNamedPlaces(t *testing.T) {
	l := []api.Tri{triWords("0 0 0", "1 0 0", "0 1 0")}
	for _, x := range treesOver(l) {
		for _, c := range []struct {
			p, q string
			want bool
		}{
			// Between: in the middle, near to p, near to q, aslant.
			{"1/4 1/4 1", "1/4 1/4 -1", true},
			{"1/4 1/4 1/1000000", "1/4 1/4 -1", true},
			{"1/4 1/4 1", "1/4 1/4 -1/1000000", true},
			{"-3/4 -7/4 1", "5/4 9/4 -1", true},
			// On its sides and corners.
			{"1/2 1/2 1", "1/2 1/2 -1", true}, {"0 1/2 3", "0 1/2 -1", true}, {"1/2 0 3", "1/2 0 -1", true},
			{"0 0 1", "0 0 -1", true}, {"1 0 1", "1 0 -1", true}, {"0 1 1", "0 1 -1", true}, {"-1 -1 -1", "1 1 1", true},
			// Through p or q.
			{"1/4 1/4 0", "1/4 1/4 1", false}, {"1/4 1/4 0", "1/4 1/4 -1", false}, {"0 0 0", "5 7 1", false}, {"1/2 1/2 0", "0 0 -1", false},
			// Behind p or q, by little and by much.
			{"1/4 1/4 1/1000000", "1/4 1/4 1", false}, {"1/4 1/4 -1", "1/4 1/4 -1/1000000", false}, {"1/4 1/4 1000", "1/4 1/4 999", false},
			// Beside.
			{"1/2 500001/1000000 1", "1/2 500001/1000000 -1", false}, {"-1/1000000 1/2 1", "-1/1000000 1/2 -1", false}, {"1 1 1", "1 1 -1", false},
			// Along the plane, within and beside.
			{"1/4 1/4 0", "1/2 1/4 0", false}, {"-1 1/4 0", "2 1/4 0", false}, {"0 0 0", "1 0 0", false}, {"0 0 0", "1/2 1/2 0", false}, {"-1 -1 1", "2 2 1", false},
			// The same.
			{"1/4 1/4 0", "1/4 1/4 0", false}, {"1/4 1/4 1", "1/4 1/4 1", false}, {"0 0 0", "0 0 0", false},
		} {
			isBlocked(t, []api.Tree{x}, l, words(c.p), words(c.q), c.want)
			isBlocked(t, []api.Tree{x}, l, loose(words(c.p)), loose(words(c.q)), c.want)
		}
	}
}

// P12.2: no triangles block nothing.
func TestBlockedOfNoTriangles(t *testing.T) {
	trees := []api.Tree{{}, {Nodes: []api.Node{}, Order: []int{}}}
	for i, p := range places() {
		isBlocked(t, trees, nil, p, places()[(3*i+11)%50], false)
		isBlocked(t, trees, []api.Tri{}, p, p, false)
	}
}

// P12.2: between floors: two places are blocked, if a floor lies between them, but not by the floors in which they lie.
func TestBlockedOfFloors(t *testing.T) {
	l, _ := floors(6, 21)
	trees := treesOver(l)
	for from := range 15 {
		for to := range 15 {
			p, q := vecOf(values{new(big.Rat), big.NewRat(1, 2), big.NewRat(int64(from), 2)}), vecOf(values{big.NewRat(1, 1), new(big.Rat), big.NewRat(int64(to), 2)})
			isThere := false
			for z := 1; z <= 6; z++ {
				isThere = isThere || min(from, to) < 2*z && 2*z < max(from, to)
			}
			isBlocked(t, trees, l, p, q, isThere)
		}
	}
}

// P12.2: the one that blocks is anywhere in the tree, the others are through p, through q, behind them, or beside.
func TestBlockedByOneOfMany(t *testing.T) {
	at := func(z string) api.Tri { return triWords("-1 -1 "+z, "5 -1 "+z, "-1 5 "+z) }
	others := []api.Tri{at("0"), at("2"), at("-1"), at("3"), triWords("1 1 -9", "1 5 0", "1 1 9"), triWords("0 0 0", "0 0 1", "0 0 2"), at("0"), at("2")}
	p, q := words("0 0 0"), words("0 0 2")
	isBlocked(t, treesOver(others), others, p, q, false)
	for place := range len(others) + 1 {
		for _, z := range []string{"1", "1/1000000", "1999999/1000000"} {
			l := slices.Insert(slices.Clone(others), place, at(z))
			isBlocked(t, treesOver(l), l, p, q, true)
		}
	}
}

// P12.2: p and q the same, whatever is there, however it is written.
func TestBlockedOfOnePlace(t *testing.T) {
	l := slices.Concat(five(), open(), shut())
	trees := treesOver(l)
	for i, x := range l {
		for _, p := range []api.Vec{x.A, x.C, vecOf(pointOf(x, big.NewRat(1, 3), big.NewRat(1, 3))), places()[i]} {
			isBlocked(t, trees, l, p, p, false)
			isBlocked(t, trees, l, p, loose(p), false)
		}
	}
	isBlocked(t, trees, l, api.Vec{}, words("0 0 0"), false)
}

// P12.2: places of a small lattice, among them many in the planes and on the sides of triangles and boxes.
func TestBlockedOnALattice(t *testing.T) {
	r, counts := source(22), map[bool]int{}
	for i := range 40 {
		l := latticeTris(r, 1+i%12)
		trees := treesOver(l)
		for range 30 {
			p, q := latticePoint(r, -1, 4), latticePoint(r, -1, 4)
			want := isBetween(l, p, q)
			isBlocked(t, trees, l, p, q, want)
			counts[want]++
		}
	}
	if counts[true] < 200 || counts[false] < 200 {
		t.Errorf("too few of each: %v", counts)
	}
}

// P12.2: any triangles; of the places that lie around one of them some are in its plane.
func TestBlockedOfAny(t *testing.T) {
	r, counts := source(23), map[bool]int{}
	for i := range 80 {
		l := anyTris(r, 1+i%20)
		trees := []api.Tree{someTree(r, l), someTree(r, l)}
		for j := range 6 {
			p, d := towards(r, l[r.IntN(len(l))])
			q := vecOf(sumOf(valuesOf(p), scaled(big.NewRat(int64(j), 3), valuesOf(d))))
			want := isBetween(l, p, q)
			isBlocked(t, trees, l, p, q, want)
			counts[want]++
		}
	}
	if counts[true] < 100 || counts[false] < 100 {
		t.Errorf("too few of each: %v", counts)
	}
}

// P12.2: as many triangles as Build takes; a tree over more that fits by the words.
func TestBlockedOfMany(t *testing.T) {
	l, _ := floors(api.MaxTree, 24)
	built, _ := bvh.Build(l)
	trees := []api.Tree{built}
	isBlocked(t, trees, l, words("0 0 100"), words("0 0 101"), false)
	isBlocked(t, trees, l, words("0 0 100"), words("0 0 102"), true)
	isBlocked(t, trees, l, words("0 0 0"), words("0 0 4097"), true)
	isBlocked(t, trees, l, words("0 0 4096"), words("0 0 9999"), false)
	l, _ = floors(5000, 25)
	deep := chain(5000, true)
	for place := range deep.Nodes {
		deep.Nodes[place].Box = boxWords("-9 -9 -9", "9 9 5000")
	}
	isBlocked(t, []api.Tree{deep}, l, words("0 0 5000"), words("0 0 4999"), false)
	isBlocked(t, []api.Tree{deep}, l, words("0 0 5001"), words("0 0 9/2"), true)
}
