package trace

import (
	"math/big"
	"math/rand/v2"
	"slices"
	"strings"
	"testing"

	"penumbra/api"
)

const top = 1<<32 - 1

func list(limbs ...uint32) []uint32 { return limbs }

// run answers a list of n limbs that are all the same.
func run(n int, limb uint32) []uint32 { return slices.Repeat([]uint32{limb}, n) }

func above(num, den []uint32) api.Rat { return api.Rat{Num: num, Den: den} }

func below(num, den []uint32) api.Rat { return api.Rat{Neg: true, Num: num, Den: den} }

// none is the canonical 0: what stands beside a false.
func none() api.Rat { return above(nil, list(1)) }

// source answers what makes the same numbers in each run.
func source(seed uint64) *rand.Rand { return rand.New(rand.NewPCG(seed, 8)) }

// natural makes a list of at most most limbs; it may end in limbs 0.
func natural(r *rand.Rand, most int) []uint32 {
	limbs := make([]uint32, r.IntN(most+1))
	for i := range limbs {
		limbs[i] = []uint32{0, 1, top, r.Uint32(), r.Uint32() >> r.IntN(32)}[r.IntN(5)]
	}
	return limbs
}

// number makes a Rat that is mostly not canonical: with limbs 0 at the end, common divisors, a Den that is 0.
func number(r *rand.Rand, most int) api.Rat {
	num, den := natural(r, most), natural(r, most)
	if r.IntN(2) == 0 {
		factor := bigOf(natural(r, 2))
		num, den = limbsOf(new(big.Int).Mul(factor, bigOf(num))), limbsOf(new(big.Int).Mul(factor, bigOf(den)))
	}
	if r.IntN(4) == 0 {
		den = list(1)
	}
	return api.Rat{Neg: r.IntN(2) == 0, Num: num, Den: append(den, run(r.IntN(3), 0)...)}
}

// point makes a Vec of three such numbers.
func point(r *rand.Rand, most int) api.Vec {
	return api.Vec{X: number(r, most), Y: number(r, most), Z: number(r, most)}
}

func bigOf(a []uint32) *big.Int {
	sum := new(big.Int)
	for _, limb := range slices.Backward(a) {
		sum.Lsh(sum, 32)
		sum.Or(sum, new(big.Int).SetUint64(uint64(limb)))
	}
	return sum
}

func limbsOf(n *big.Int) []uint32 {
	bytes := n.FillBytes(make([]byte, (n.BitLen()+31)/32*4))
	limbs := make([]uint32, len(bytes)/4)
	for i, b := range bytes {
		place := len(bytes) - 1 - i
		limbs[place/4] |= uint32(b) << (place % 4 * 8)
	}
	return limbs
}

// valueOf reads any Rat, by another reckoner.
func valueOf(r api.Rat) *big.Rat {
	den := bigOf(r.Den)
	if den.Sign() == 0 {
		return new(big.Rat)
	}
	value := new(big.Rat).SetFrac(bigOf(r.Num), den)
	if r.Neg {
		value.Neg(value)
	}
	return value
}

// ratOf answers the canonical Rat, by another reckoner.
func ratOf(value *big.Rat) api.Rat {
	return api.Rat{Neg: value.Sign() < 0, Num: limbsOf(new(big.Int).Abs(value.Num())), Den: limbsOf(value.Denom())}
}

// values are the numbers of a Vec, by another reckoner.
type values [3]*big.Rat

func valuesOf(v api.Vec) values { return values{valueOf(v.X), valueOf(v.Y), valueOf(v.Z)} }

func vecOf(l values) api.Vec { return api.Vec{X: ratOf(l[0]), Y: ratOf(l[1]), Z: ratOf(l[2])} }

func plus(x, y *big.Rat) *big.Rat { return new(big.Rat).Add(x, y) }

func minus(x, y *big.Rat) *big.Rat { return new(big.Rat).Sub(x, y) }

func times(x, y *big.Rat) *big.Rat { return new(big.Rat).Mul(x, y) }

func over(x, y *big.Rat) *big.Rat { return new(big.Rat).Quo(x, y) }

func one() *big.Rat { return big.NewRat(1, 1) }

func scaled(k *big.Rat, l values) values {
	return values{times(k, l[0]), times(k, l[1]), times(k, l[2])}
}

func sumOf(a, b values) values { return values{plus(a[0], b[0]), plus(a[1], b[1]), plus(a[2], b[2])} }

func lessOf(a, b values) values { return sumOf(a, scaled(big.NewRat(-1, 1), b)) }

// pointOf answers the point of the triangle, by another reckoner.
func pointOf(x api.Tri, u, v *big.Rat) values {
	a := valuesOf(x.A)
	return sumOf(a, sumOf(scaled(u, lessOf(valuesOf(x.B), a)), scaled(v, lessOf(valuesOf(x.C), a))))
}

func word(text string) api.Rat {
	value, ok := new(big.Rat).SetString(text)
	if !ok {
		panic("no number: " + text)
	}
	return ratOf(value)
}

// words makes a Vec out of three numbers as big.Rat reads them: canonical ones.
func words(text string) api.Vec {
	l := strings.Fields(text)
	if len(l) != 3 {
		panic("no Vec: " + text)
	}
	return api.Vec{X: word(l[0]), Y: word(l[1]), Z: word(l[2])}
}

// tiny is a number above 0 that takes many limbs to tell from 0.
func tiny() *big.Rat {
	return new(big.Rat).SetFrac(big.NewInt(1), new(big.Int).Lsh(big.NewInt(1), 100))
}

func equal(a, b api.Rat) bool {
	return a.Neg == b.Neg && slices.Equal(a.Num, b.Num) && slices.Equal(a.Den, b.Den)
}

// isNumber holds against the wanted Rat limb by limb, so that what is not canonical is seen.
func isNumber(t *testing.T, got, want api.Rat, what ...any) {
	t.Helper()
	if !equal(got, want) {
		t.Errorf("%v: got %v, want %v", what, got, want)
	}
}

// zeros are many ways to write 0.
func zeros() []api.Rat {
	return []api.Rat{
		{}, {Neg: true}, above(nil, list(1)), above(list(), list(1)), below(nil, list(1)), below(list(0), list(1)), above(list(0, 0), list(7, 0)),
		above(list(1), nil), below(list(1), nil), above(list(1), list()), below(list(6, 5), list(0)), above(list(4), list(0, 0, 0)), below(list(0, 0), list(0)),
		below(run(20, top), run(9, 0)), above(nil, run(9, top)),
	}
}

// writings are Rats that are all read as the number r.
func writings(r api.Rat) []api.Rat {
	all := []api.Rat{r, {Neg: r.Neg, Num: append(slices.Clone(r.Num), 0), Den: append(slices.Clone(r.Den), 0, 0)}}
	for _, factor := range [][]uint32{list(6), list(0, 1), list(top, top, 5)} {
		n, d := new(big.Int).Mul(bigOf(r.Num), bigOf(factor)), new(big.Int).Mul(bigOf(r.Den), bigOf(factor))
		all = append(all, api.Rat{Neg: r.Neg, Num: append(limbsOf(n), 0), Den: append(limbsOf(d), 0, 0)})
	}
	if valueOf(r).Sign() == 0 {
		all = append(all, zeros()...)
	}
	return all
}

// vecWritings are Vecs that are all read as v: each of its numbers is written in each way, beside other ones.
func vecWritings(v api.Vec) []api.Vec {
	x, y, z := writings(v.X), writings(v.Y), writings(v.Z)
	var all []api.Vec
	for i := range max(len(x), len(y), len(z)) {
		all = append(all,
			api.Vec{X: x[i%len(x)], Y: y[(i+1)%len(y)], Z: z[(i+2)%len(z)]},
			api.Vec{X: x[i%len(x)], Y: v.Y, Z: v.Z}, api.Vec{X: v.X, Y: y[i%len(y)], Z: v.Z}, api.Vec{X: v.X, Y: v.Y, Z: z[i%len(z)]},
		)
	}
	return all
}

// loose writes each number by a common divisor, and with limbs 0.
func loose(v api.Vec) api.Vec {
	return api.Vec{X: looseNumber(v.X), Y: looseNumber(v.Y), Z: looseNumber(v.Z)}
}

func looseNumber(r api.Rat) api.Rat { return writings(r)[4] }

// kinds are canonical numbers below 0, 0 and above 0, whole ones and ones with a Den, of one limb and of many.
func kinds() []api.Rat {
	return []api.Rat{
		none(), word("1"), word("-1"), word("5"), word("-2/3"), word("9/4"),
		above(list(1, 2, 3, 4, 5), list(1)), below(list(0, 0, 0, 1), list(1)), above(list(1), list(0, 0, 1)), below(run(4, top), list(0, 0, 0, 8)),
	}
}

// places are Vecs in each of whose places each kind of number stands, beside other kinds.
func places() []api.Vec {
	all := kinds()
	var out []api.Vec
	for i, r := range all {
		out = append(out, api.Vec{X: r, Y: none(), Z: none()}, api.Vec{X: none(), Y: r, Z: none()}, api.Vec{X: none(), Y: none(), Z: r})
		out = append(out, api.Vec{X: r, Y: all[(i+3)%len(all)], Z: all[(i+7)%len(all)]}, api.Vec{X: r, Y: r, Z: r})
	}
	return out
}

// near makes a Vec of few small numbers, so that many are the same; some are not canonical.
func near(r *rand.Rand) api.Vec {
	small := func() api.Rat {
		n, d := r.Int64N(7)-3, 1+r.Int64N(2)
		return writings(ratOf(big.NewRat(n, d)))[r.IntN(3)]
	}
	return api.Vec{X: small(), Y: small(), Z: small()}
}

// anyPoint makes small numbers and long ones.
func anyPoint(r *rand.Rand) api.Vec {
	switch r.IntN(4) {
	case 0:
		return point(r, 3)
	case 1:
		return places()[r.IntN(50)]
	default:
		return near(r)
	}
}

func boxWords(lo, hi string) api.Box { return api.Box{Lo: words(lo), Hi: words(hi)} }

// boxWritings are boxes that are all read as b: both corners are written in each way, together and by themselves.
func boxWritings(b api.Box) []api.Box {
	lo, hi := vecWritings(b.Lo), vecWritings(b.Hi)
	var all []api.Box
	for i := range max(len(lo), len(hi)) {
		all = append(all, api.Box{Lo: lo[i%len(lo)], Hi: hi[(i+5)%len(hi)]}, api.Box{Lo: lo[i%len(lo)], Hi: b.Hi}, api.Box{Lo: b.Lo, Hi: hi[i%len(hi)]})
	}
	return all
}

func triWords(a, b, c string) api.Tri { return api.Tri{A: words(a), B: words(b), C: words(c)} }

func anyTris(r *rand.Rand, n int) []api.Tri {
	l := make([]api.Tri, n)
	for i := range l {
		l[i] = api.Tri{A: anyPoint(r), B: anyPoint(r), C: anyPoint(r)}
	}
	return l
}

// triWritings are triangles that are all read as x: each corner is written in each way, beside other ones, and by itself.
func triWritings(x api.Tri) []api.Tri {
	a, b, c := vecWritings(x.A), vecWritings(x.B), vecWritings(x.C)
	var all []api.Tri
	for i := range max(len(a), len(b), len(c)) {
		all = append(all,
			api.Tri{A: a[i%len(a)], B: b[(i+1)%len(b)], C: c[(i+2)%len(c)]},
			api.Tri{A: a[i%len(a)], B: x.B, C: x.C}, api.Tri{A: x.A, B: b[i%len(b)], C: x.C}, api.Tri{A: x.A, B: x.B, C: c[i%len(c)]},
		)
	}
	return all
}

func looseTri(x api.Tri) api.Tri { return api.Tri{A: loose(x.A), B: loose(x.B), C: loose(x.C)} }

func leaf(from, count int) api.Node { return api.Node{From: from, Count: count} }

func inner(left, right int) api.Node { return api.Node{Left: left, Right: right} }

// five are triangles of which each is outermost somewhere.
func five() []api.Tri {
	return []api.Tri{
		triWords("0 0 0", "1 0 -9", "0 1 0"), triWords("2 0 1", "3 0 1", "2 1 2"), triWords("-1 4 0", "0 5 0", "-1 4 3"),
		triWords("5 -5 1/2", "6 -4 1/2", "5 -4 1/3"), triWords("0 0 7", "0 0 8", "1/7 0 8"),
	}
}

// hand is a tree over those five, whose boxes are as small as may be.
func hand() api.Tree {
	return snug(api.Tree{Nodes: []api.Node{inner(1, 2), leaf(0, 2), inner(4, 3), leaf(2, 1), leaf(3, 2)}, Order: []int{3, 0, 4, 2, 1}}, five())
}

// copied answers the tree with lists of its own; its numbers' limbs are shared.
func copied(t api.Tree) api.Tree {
	return api.Tree{Nodes: slices.Clone(t.Nodes), Order: slices.Clone(t.Order)}
}

// changed answers the tree after a change, which the tree itself does not see.
func changed(t api.Tree, change func(t *api.Tree)) api.Tree {
	out := copied(t)
	change(&out)
	return out
}

// under are the triangles' numbers in the leaves that are the node, or are below it, by the words; the tree must fit but for its boxes.
func under(t api.Tree, place int) []int {
	node := t.Nodes[place]
	if node.Count > 0 {
		return slices.Clone(t.Order[node.From : node.From+node.Count])
	}
	return append(under(t, node.Left), under(t, node.Right)...)
}

func cornersOf(l []api.Tri, numbers []int) []api.Vec {
	var corners []api.Vec
	for _, number := range numbers {
		corners = append(corners, l[number].A, l[number].B, l[number].C)
	}
	return corners
}

// sides are a box's six numbers, those of Lo first.
func sides(b *api.Box) []*api.Rat {
	return []*api.Rat{&b.Lo.X, &b.Lo.Y, &b.Lo.Z, &b.Hi.X, &b.Hi.Y, &b.Hi.Z}
}

// boxOf answers the least box around points, by another reckoner.
func boxOf(points []api.Vec) api.Box {
	var b api.Box
	for side, number := range sides(&b) {
		var all []*big.Rat
		for _, p := range points {
			all = append(all, valuesOf(p)[side%3])
		}
		slices.SortFunc(all, (*big.Rat).Cmp)
		*number = ratOf(all[side/3*(len(all)-1)])
	}
	return b
}

// snug answers the tree with the least boxes that hold what they must.
func snug(t api.Tree, l []api.Tri) api.Tree {
	return changed(t, func(t *api.Tree) {
		for place := range t.Nodes {
			t.Nodes[place].Box = boxOf(cornersOf(l, under(*t, place)))
		}
	})
}

// wide answers the tree with boxes that hold all that is within 1000.
func wide(t api.Tree) api.Tree {
	return changed(t, func(t *api.Tree) {
		for place := range t.Nodes {
			t.Nodes[place].Box = boxWords("-1000 -1000 -1000", "1000 1000 1000")
		}
	})
}

// chain is a lopsided tree: each inner node has a leaf of one triangle, and all the others.
func chain(n int, isLeafFirst bool) api.Tree {
	var t api.Tree
	for i := range n {
		t.Order = append(t.Order, n-1-i)
		if i == n-1 {
			t.Nodes = append(t.Nodes, leaf(i, 1))
			break
		}
		node := inner(len(t.Nodes)+1, len(t.Nodes)+2)
		if !isLeafFirst {
			node.Left, node.Right = node.Right, node.Left
		}
		t.Nodes = append(t.Nodes, node, leaf(i, 1))
	}
	return wide(t)
}

// part is a part of the order for which a node's place is kept.
type part struct{ place, from, count int }

// someTree answers a tree of any form: with leaves of any size, nodes in any order that may be, boxes that are snug or not.
func someTree(r *rand.Rand, l []api.Tri) api.Tree {
	t := api.Tree{Order: r.Perm(len(l))}
	if len(l) == 0 {
		return t
	}
	t.Nodes = make([]api.Node, 1)
	parts := []part{{0, 0, len(l)}}
	for len(parts) > 0 {
		i := r.IntN(len(parts))
		p := parts[i]
		parts = slices.Delete(parts, i, i+1)
		if p.count == 1 || r.IntN(4) == 0 {
			t.Nodes[p.place] = leaf(p.from, p.count)
			continue
		}
		cut, first := 1+r.IntN(p.count-1), r.IntN(2)
		low, high := len(t.Nodes)+first, len(t.Nodes)+1-first
		t.Nodes[p.place] = inner(len(t.Nodes), len(t.Nodes)+1)
		if r.IntN(2) == 0 {
			t.Nodes[p.place] = inner(len(t.Nodes)+1, len(t.Nodes))
		}
		t.Nodes = append(t.Nodes, api.Node{}, api.Node{})
		parts = append(parts, part{low, p.from, cut}, part{high, p.from + cut, p.count - cut})
	}
	t = snug(t, l)
	for place := range t.Nodes {
		for side, number := range sides(&t.Nodes[place].Box) {
			if r.IntN(4) == 0 {
				*number = outwards(*number, side, tiny())
			}
			*number = writings(*number)[r.IntN(5)]
		}
	}
	return t
}

// outwards moves the number of one of a box's six sides by so much, to where the box is greater.
func outwards(number api.Rat, side int, by *big.Rat) api.Rat {
	if side < 3 {
		by = new(big.Rat).Neg(by)
	}
	return ratOf(plus(valueOf(number), by))
}

func inwards(number api.Rat, side int, by *big.Rat) api.Rat {
	return outwards(number, side, new(big.Rat).Neg(by))
}

// kindsOfLists are triangles of all kinds: apart, one in another one, the same, in a plane, in a row, points, long ones, ones that are not canonical.
func kindsOfLists(n int) map[string][]api.Tri {
	r, all := source(uint64(n)), map[string][]api.Tri{}
	add := func(name string, x api.Tri) { all[name] = append(all[name], x) }
	for i := range n {
		corner := func(x, y, z int) api.Vec {
			return vecOf(values{big.NewRat(int64(x), 3), big.NewRat(int64(y), 7), big.NewRat(int64(z), 1)})
		}
		add("the same", triWords("1 2 3", "4 -5 6", "7 8 -9/2"))
		add("points that are the same", triWords("1 2 3", "1 2 3", "1 2 3"))
		add("zero", api.Tri{})
		add("in a row along X", api.Tri{A: corner(9*i, 0, 0), B: corner(9*i+1, 0, 0), C: corner(9*i+3, 0, 0)})
		add("in a row along Y", api.Tri{A: corner(1, -9*i, 0), B: corner(1, 5-9*i, 0), C: corner(1, 3-9*i, 0)})
		add("in a row along Z", api.Tri{A: corner(0, 1, i), B: corner(0, 1, i+1), C: corner(0, 1, i)})
		add("in a slanted row", api.Tri{A: corner(i, 2*i, -3*i), B: corner(i+1, 2*i+2, -3*i-3), C: corner(i, 2*i, -3*i)})
		add("in a plane", api.Tri{A: corner(i%7, i/7, 2), B: corner(i%7+1, i/7, 2), C: corner(i%7, i/7+1, 2)})
		add("in a slanted plane", api.Tri{A: corner(i%5, i/5, i), B: corner(i%5+1, i/5, i+2), C: corner(i%5, i/5+4, i)})
		add("points", api.Tri{A: corner(i%5, i%3, i%4), B: corner(i%5, i%3, i%4), C: corner(i%5, i%3, i%4)})
		add("one in another one", api.Tri{A: corner(-i, -i, -i), B: corner(i, 0, 0), C: corner(0, i, i)})
		add("two kinds", api.Tri{A: corner(i%2, 0, 0), B: corner(i%2, 1, 0), C: corner(i%2, 0, 1)})
		all["any"] = append(all["any"], anyTris(r, 1)...)
		add("near", api.Tri{A: near(r), B: near(r), C: near(r)})
		add("long", api.Tri{A: places()[i%50], B: places()[(3*i+7)%50], C: places()[(7*i+1)%50]})
	}
	return all
}
