package bvh

import (
	"math/big"
	"reflect"
	"slices"
	"testing"

	"penumbra/api"
)

// isBuilt holds what Build answers against all that is promised of it.
func isBuilt(t *testing.T, l []api.Tri, what ...any) api.Tree {
	t.Helper()
	x, e := Build(l)
	if e != api.OK || !Check(x, l) || !fits(x, l) {
		t.Fatalf("%v: error %d, Check %v", what, e, Check(x, l))
	}
	for _, node := range x.Nodes {
		if node.Count > 4 {
			t.Errorf("%v: a leaf of %d", what, node.Count)
		}
	}
	if deep := depthOf(x, 0); deep > 14 || Depth(x) != deep {
		t.Errorf("%v: %d deep, Depth %d", what, deep, Depth(x))
	}
	if again, e := Build(l); e != api.OK || !reflect.DeepEqual(again, x) {
		t.Errorf("%v: another tree at the second time", what)
	}
	return x
}

// P11.2: of no triangles there are no nodes.
func TestBuildOfNothing(t *testing.T) {
	for _, l := range [][]api.Tri{nil, {}, five()[:0]} {
		x, e := Build(l)
		if e != api.OK || !reflect.DeepEqual(x, api.Tree{}) || !Check(x, l) || Depth(x) != 0 {
			t.Errorf("%v, %d", x, e)
		}
	}
}

// P11.2: of one triangle there is one leaf, whose From is 0, Count 1, Order 0.
func TestBuildOfOne(t *testing.T) {
	for _, x := range append(five(), api.Tri{}, looseTri(five()[3]), api.Tri{A: places()[33], B: places()[48], C: places()[28]}) {
		got := isBuilt(t, []api.Tri{x}, x)
		if len(got.Nodes) != 1 || !slices.Equal(got.Order, []int{0}) || Depth(got) != 1 {
			t.Fatalf("%v: %v", x, got)
		}
		if node := got.Nodes[0]; node.From != 0 || node.Count != 1 || node.Left != 0 || node.Right != 0 {
			t.Errorf("%v: %v", x, node)
		}
	}
}

// P11.2: each number of triangles up to 40, of all kinds.
func TestBuildOfFew(t *testing.T) {
	for n := range 41 {
		for name, l := range kindsOfLists(n) {
			isBuilt(t, l, name, n)
		}
	}
}

// P11.2: four triangles may be one leaf, five may not.
func TestBuildOfFourAndFive(t *testing.T) {
	for name, l := range kindsOfLists(5) {
		if x := isBuilt(t, l, name); len(x.Nodes) < 3 {
			t.Errorf("%s: %d nodes over five", name, len(x.Nodes))
		}
		isBuilt(t, l[:4], name)
	}
}

// P11.2: numbers of triangles at which halves are odd at each depth, or never.
func TestBuildOfMany(t *testing.T) {
	for _, n := range []int{63, 64, 65, 129, 255, 341} {
		for name, l := range kindsOfLists(n) {
			isBuilt(t, l, name, n)
		}
	}
}

// P11.2: as many as may be, of all kinds; one more are an error, without a tree.
func TestBuildOfMost(t *testing.T) {
	for name, l := range kindsOfLists(api.MaxTree + 1) {
		x, e := Build(l[1:])
		if e != api.OK || !Check(x, l[1:]) || !formsFit(x, len(l)-1) || !partsFit(x) || depthOf(x, 0) > 14 {
			t.Errorf("%s: error %d", name, e)
		}
		for _, node := range x.Nodes {
			if node.Count > 4 {
				t.Errorf("%s: a leaf of %d", name, node.Count)
			}
		}
		isTooMany(t, l)
	}
	isTooMany(t, make([]api.Tri, 5000))
	isTooMany(t, make([]api.Tri, 1<<17))
}

func isTooMany(t *testing.T, l []api.Tri) {
	t.Helper()
	if x, e := Build(l); e != api.ErrArg || !reflect.DeepEqual(x, api.Tree{}) {
		t.Errorf("%d triangles: %d, %d nodes", len(l), e, len(x.Nodes))
	}
}

// apart are triangles that stand one behind the other along an axis, far out along the other ones, in any order.
func apart(n, axis int, far int64) []api.Tri {
	r := source(uint64(axis))
	l := make([]api.Tri, n)
	for i, place := range r.Perm(n) {
		for _, p := range corners(&l[i]) {
			numbers := values{big.NewRat(far+r.Int64N(30), 1), big.NewRat(far-r.Int64N(30), 1), big.NewRat(-far+r.Int64N(30), 1)}
			numbers[axis] = big.NewRat(far/2+int64(9*place)+r.Int64N(8), 1)
			*p = vecOf(numbers)
		}
	}
	return l
}

// What lies apart is parted, or there would be no need of a tree: no leaf reaches into another one.
func TestBuildPartsWhatLiesApart(t *testing.T) {
	for axis := range 3 {
		for _, far := range []int64{0, 1000000, -1000000} {
			var leaves []api.Box
			for _, node := range isBuilt(t, apart(150, axis, far), axis, far).Nodes {
				if node.Count > 0 {
					leaves = append(leaves, node.Box)
				}
			}
			slices.SortFunc(leaves, func(a, b api.Box) int { return valuesOf(a.Lo)[axis].Cmp(valuesOf(b.Lo)[axis]) })
			for i, b := range leaves[1:] {
				if valuesOf(leaves[i].Hi)[axis].Cmp(valuesOf(b.Lo)[axis]) >= 0 {
					t.Errorf("%d, %d: %v and %v", axis, far, leaves[i], b)
				}
			}
		}
	}
}

// P11.2: how the triangles' numbers are written is of no moment.
func TestBuildOfOtherWritings(t *testing.T) {
	for name, l := range kindsOfLists(37) {
		want := isBuilt(t, l, name)
		others := make([]api.Tri, len(l))
		for i, x := range l {
			all := triWritings(x)
			others[i] = all[7*i%len(all)]
		}
		if got := isBuilt(t, others, name); !reflect.DeepEqual(got, want) {
			t.Errorf("%s: another tree", name)
		}
	}
}
