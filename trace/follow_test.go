package trace

import (
	"math/big"
	"slices"
	"testing"

	"penumbra/api"
	"penumbra/bvh"
)

// shape is nodes over a part of the order, the first of them being the topmost.
type shape []api.Node

// beside answers the shape of the node over two shapes, of which the other one stands behind.
func (s shape) beside(other shape, isFirst bool) shape {
	all := shape{inner(1, 1+len(s))}
	if !isFirst {
		all[0] = inner(1+len(s), 1)
	}
	for i, part := range []shape{s, other} {
		for _, node := range part {
			if node.Count == 0 {
				node.Left, node.Right = node.Left+1+i*len(s), node.Right+1+i*len(s)
			}
			all = append(all, node)
		}
	}
	return all
}

// shapes are all shapes over a part of the order.
func shapes(from, count int) []shape {
	all := []shape{{leaf(from, count)}}
	for cut := 1; cut < count; cut++ {
		for _, low := range shapes(from, cut) {
			for _, high := range shapes(from+cut, count-cut) {
				all = append(all, low.beside(high, true), low.beside(high, false))
			}
		}
	}
	return all
}

// P12.3: which tree it is is of no moment: all trees over four triangles, in each order.
func TestAllTreesOverFourTriangles(t *testing.T) {
	l := []api.Tri{triWords("0 0 1", "2 0 1", "0 2 1"), triWords("0 0 0", "2 0 2", "0 2 2"), triWords("0 0 1", "2 2 1", "0 2 1"), triWords("1 0 0", "1 2 0", "1 2 2")}
	var trees []api.Tree
	for _, order := range orders(4) {
		for _, s := range shapes(0, 4) {
			trees = append(trees, snug(api.Tree{Nodes: s, Order: order}, l))
			fits(t, trees[len(trees)-1], l)
		}
	}
	for _, ray := range []struct{ o, d string }{{"1/2 1/2 3", "0 0 -1"}, {"0 0 3", "1/3 1/3 -1"}, {"1/2 1 3", "0 0 -3"}, {"2 2 2", "-1 -1 -1"}, {"1/2 1 -3", "1/8 0 1"}, {"3 1 1", "-1 0 0"}} {
		if !isAsTried(t, trees, l, words(ray.o), words(ray.d)) {
			t.Errorf("none is met: %v", ray)
		}
	}
	isBlocked(t, trees, l, words("1/2 1/2 3"), words("1/2 1/2 1"), false)
	isBlocked(t, trees, l, words("1/2 1/2 3"), words("1/2 1/2 1/3"), true)
	isBlocked(t, trees, l, words("0 1 1/2"), words("2 1 1/2"), true)
}

// P12.3 and P12.2: Blocked is the same from q to p, and as the S of the nearest says.
func TestBlockedAsNearest(t *testing.T) {
	r, counts := source(31), map[bool]int{}
	for i := range 150 {
		l := append(latticeTris(r, 1+i%6), anyTris(r, i%4)...)
		x, y := someTree(r, l), someTree(r, l)
		for j := range 12 {
			p, q := latticePoint(r, -1, 4), latticePoint(r, -1, 4)
			if j == 0 {
				p, q = anyPoint(r), anyPoint(r)
			}
			_, meet, ok := Nearest(x, l, p, vecOf(lessOf(valuesOf(q), valuesOf(p))))
			want := ok && valueOf(meet.S).Cmp(one()) < 0
			isBlocked(t, []api.Tree{x, y}, l, p, q, want)
			counts[want]++
		}
	}
	if counts[true] < 300 || counts[false] < 300 {
		t.Errorf("too few of each: %v", counts)
	}
}

// P12.1: who goes on from where the ray met a triangle comes by all of them, each S once, in their order.
func TestGoingOnFromWhatIsMet(t *testing.T) {
	r, most := source(32), 0
	for i := range 120 {
		l := latticeTris(r, 3+i%14)
		x := someTree(r, l)
		o, d := aimed(r, l)
		var all []*big.Rat
		for _, y := range l {
			if at, ok := met(valuesOf(o), valuesOf(d), y); ok {
				all = append(all, at[0])
			}
		}
		slices.SortFunc(all, (*big.Rat).Cmp)
		all = slices.CompactFunc(all, func(a, b *big.Rat) bool { return a.Cmp(b) == 0 })
		begin := new(big.Rat)
		for j, s := range all {
			_, meet, ok := Nearest(x, l, vecOf(sumOf(valuesOf(o), scaled(begin, valuesOf(d)))), d)
			begin.Add(begin, valueOf(meet.S))
			if !ok || begin.Cmp(s) != 0 {
				t.Errorf("the meeting %d is at %v, want %v", j, begin, s)
			}
		}
		isMissed(t, x, l, vecOf(sumOf(valuesOf(o), scaled(begin, valuesOf(d)))), d)
		most = max(most, len(all))
	}
	if most < 4 {
		t.Errorf("at most %d", most)
	}
}

// P12.1: a direction that is k times as long makes S k times less; U and V stay.
func TestNearestOfALongerDirection(t *testing.T) {
	r := source(33)
	for i := range 200 {
		l := latticeTris(r, 1+i%9)
		x := someTree(r, l)
		o, d := aimed(r, l)
		number, meet, ok := Nearest(x, l, o, d)
		for _, k := range []*big.Rat{big.NewRat(3, 1), big.NewRat(2, 7), tiny()} {
			want := meet
			want.S = ratOf(over(valueOf(meet.S), k))
			isNearest(t, x, l, o, vecOf(scaled(k, valuesOf(d))), number, want, ok)
		}
	}
}

// P12.1: triangles in another order: what is told is as far away, and has the least of the new numbers.
func TestNearestOfAnotherOrder(t *testing.T) {
	r, hits := source(34), 0
	for i := range 300 {
		l := latticeTris(r, 1+i%12)
		moved, places := make([]api.Tri, len(l)), r.Perm(len(l))
		for number, place := range places {
			moved[place] = l[number]
		}
		x, y := someTree(r, l), someTree(r, moved)
		o, d := aimed(r, l)
		_, meet, ok := Nearest(x, l, o, d)
		number, other, isThere := Nearest(y, moved, o, d)
		if ok != isThere || !equal(meet.S, other.S) {
			t.Errorf("%v, %v and %v, %v", meet, ok, other, isThere)
		}
		if !ok {
			continue
		}
		hits++
		for place, z := range moved {
			if at, isMet := met(valuesOf(o), valuesOf(d), z); isMet && equal(ratOf(at[0]), meet.S) != (place == number) && place <= number {
				t.Errorf("%d is as near as %d", place, number)
			}
		}
	}
	if hits < 150 {
		t.Errorf("only %d hits", hits)
	}
}

// P12.1 and P12.2: all that is moved together, and made greater, is met likewise.
func TestAllMovedTogether(t *testing.T) {
	r := source(35)
	for i := range 150 {
		l := latticeTris(r, 1+i%9)
		k, move := big.NewRat(1+r.Int64N(5), 3), valuesOf(anyPoint(r))
		if i%2 == 0 {
			k.Neg(k)
		}
		take := func(p api.Vec) api.Vec { return vecOf(sumOf(move, scaled(k, valuesOf(p)))) }
		var moved []api.Tri
		for _, x := range l {
			moved = append(moved, api.Tri{A: take(x.A), B: take(x.B), C: take(x.C)})
		}
		built, _ := bvh.Build(l)
		y, _ := bvh.Build(moved)
		o, d := aimed(r, l)
		number, meet, ok := Nearest(built, l, o, d)
		isNearest(t, y, moved, take(o), vecOf(scaled(k, valuesOf(d))), number, meet, ok)
		p, q := latticePoint(r, -1, 4), latticePoint(r, -1, 4)
		isBlocked(t, []api.Tree{y}, moved, take(p), take(q), Blocked(built, l, p, q))
	}
}

// P12.1: a triangle that is added is told, or nothing changes: Nearest of more is the nearer one of both.
func TestNearestOfOneMore(t *testing.T) {
	r, counts := source(36), map[bool]int{}
	for i := range 300 {
		l := latticeTris(r, 2+i%9)
		most := len(l) - 1
		x, y := someTree(r, l), someTree(r, l[:most])
		o, d := aimed(r, l)
		number, want, ok := Nearest(y, l[:most], o, d)
		at, isMet := met(valuesOf(o), valuesOf(d), l[most])
		isNew := isMet && (!ok || at[0].Cmp(valueOf(want.S)) < 0)
		if isNew {
			number, want, ok = most, meetOf(at), true
		}
		isNearest(t, x, l, o, d, number, want, ok)
		counts[isNew]++
	}
	if counts[true] < 40 || counts[false] < 100 {
		t.Errorf("too few of each: %v", counts)
	}
}
