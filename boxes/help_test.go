package boxes

import (
	"math/big"
	"math/rand/v2"
	"slices"
	"strings"
	"testing"

	"penumbra/api"
)

const top = 1<<32 - 1

func list(limbs ...uint32) []uint32 { return limbs }

// run answers a list of n limbs that are all the same.
func run(n int, limb uint32) []uint32 { return slices.Repeat([]uint32{limb}, n) }

func above(num, den []uint32) api.Rat { return api.Rat{Num: num, Den: den} }

func below(num, den []uint32) api.Rat { return api.Rat{Neg: true, Num: num, Den: den} }

// none is the canonical 0: what stands beside a false.
func none() api.Rat { return above(nil, list(1)) }

// source answers what makes the same numbers in each run.
func source(seed uint64) *rand.Rand { return rand.New(rand.NewPCG(seed, 8)) }

// natural makes a list of at most most limbs; it may end in limbs 0.
func natural(r *rand.Rand, most int) []uint32 {
	limbs := make([]uint32, r.IntN(most+1))
	for i := range limbs {
		limbs[i] = []uint32{0, 1, top, r.Uint32(), r.Uint32() >> r.IntN(32)}[r.IntN(5)]
	}
	return limbs
}

// number makes a Rat that is mostly not canonical: with limbs 0 at the end, common divisors, a Den that is 0.
func number(r *rand.Rand, most int) api.Rat {
	num, den := natural(r, most), natural(r, most)
	if r.IntN(2) == 0 {
		factor := bigOf(natural(r, 2))
		num, den = limbsOf(new(big.Int).Mul(factor, bigOf(num))), limbsOf(new(big.Int).Mul(factor, bigOf(den)))
	}
	if r.IntN(4) == 0 {
		den = list(1)
	}
	return api.Rat{Neg: r.IntN(2) == 0, Num: num, Den: append(den, run(r.IntN(3), 0)...)}
}

// point makes a Vec of three such numbers.
func point(r *rand.Rand, most int) api.Vec {
	return api.Vec{X: number(r, most), Y: number(r, most), Z: number(r, most)}
}

func bigOf(a []uint32) *big.Int {
	sum := new(big.Int)
	for _, limb := range slices.Backward(a) {
		sum.Lsh(sum, 32)
		sum.Or(sum, new(big.Int).SetUint64(uint64(limb)))
	}
	return sum
}

func limbsOf(n *big.Int) []uint32 {
	bytes := n.FillBytes(make([]byte, (n.BitLen()+31)/32*4))
	limbs := make([]uint32, len(bytes)/4)
	for i, b := range bytes {
		place := len(bytes) - 1 - i
		limbs[place/4] |= uint32(b) << (place % 4 * 8)
	}
	return limbs
}

// valueOf reads any Rat, by another reckoner.
func valueOf(r api.Rat) *big.Rat {
	den := bigOf(r.Den)
	if den.Sign() == 0 {
		return new(big.Rat)
	}
	value := new(big.Rat).SetFrac(bigOf(r.Num), den)
	if r.Neg {
		value.Neg(value)
	}
	return value
}

// ratOf answers the canonical Rat, by another reckoner.
func ratOf(value *big.Rat) api.Rat {
	return api.Rat{Neg: value.Sign() < 0, Num: limbsOf(new(big.Int).Abs(value.Num())), Den: limbsOf(value.Denom())}
}

// values are the numbers of a Vec, by another reckoner.
type values [3]*big.Rat

func valuesOf(v api.Vec) values { return values{valueOf(v.X), valueOf(v.Y), valueOf(v.Z)} }

func vecOf(l values) api.Vec { return api.Vec{X: ratOf(l[0]), Y: ratOf(l[1]), Z: ratOf(l[2])} }

func plus(x, y *big.Rat) *big.Rat { return new(big.Rat).Add(x, y) }

func minus(x, y *big.Rat) *big.Rat { return new(big.Rat).Sub(x, y) }

func times(x, y *big.Rat) *big.Rat { return new(big.Rat).Mul(x, y) }

func over(x, y *big.Rat) *big.Rat { return new(big.Rat).Quo(x, y) }

func opposite(x *big.Rat) *big.Rat { return new(big.Rat).Neg(x) }

func word(text string) api.Rat {
	value, ok := new(big.Rat).SetString(text)
	if !ok {
		panic("no number: " + text)
	}
	return ratOf(value)
}

// words makes a Vec out of three numbers as big.Rat reads them: canonical ones.
func words(text string) api.Vec {
	l := strings.Fields(text)
	if len(l) != 3 {
		panic("no Vec: " + text)
	}
	return api.Vec{X: word(l[0]), Y: word(l[1]), Z: word(l[2])}
}

// tiny is a number above 0 that takes many limbs to tell from 0.
func tiny() *big.Rat {
	return new(big.Rat).SetFrac(big.NewInt(1), new(big.Int).Lsh(big.NewInt(1), 100))
}

func equal(a, b api.Rat) bool {
	return a.Neg == b.Neg && slices.Equal(a.Num, b.Num) && slices.Equal(a.Den, b.Den)
}

// isNumber holds against the wanted Rat limb by limb, so that what is not canonical is seen.
func isNumber(t *testing.T, got, want api.Rat, what ...any) {
	t.Helper()
	if !equal(got, want) {
		t.Errorf("%v: got %v, want %v", what, got, want)
	}
}

func isVec(t *testing.T, got, want api.Vec, what ...any) {
	t.Helper()
	for i, number := range numbersOf(got) {
		isNumber(t, number, numbersOf(want)[i], "XYZ"[i:i+1], what)
	}
}

// numbersOf are the numbers of all of the Vecs, one behind the other.
func numbersOf(l ...api.Vec) []api.Rat {
	var out []api.Rat
	for _, v := range l {
		out = append(out, v.X, v.Y, v.Z)
	}
	return out
}

// zeros are many ways to write 0.
func zeros() []api.Rat {
	return []api.Rat{
		{}, {Neg: true}, above(nil, list(1)), above(list(), list(1)), below(nil, list(1)), below(list(0), list(1)), above(list(0, 0), list(7, 0)),
		above(list(1), nil), below(list(1), nil), above(list(1), list()), below(list(6, 5), list(0)), above(list(4), list(0, 0, 0)), below(list(0, 0), list(0)),
		below(run(20, top), run(9, 0)), above(nil, run(9, top)),
	}
}

// writings are Rats that are all read as the number r.
func writings(r api.Rat) []api.Rat {
	all := []api.Rat{r, {Neg: r.Neg, Num: append(slices.Clone(r.Num), 0), Den: append(slices.Clone(r.Den), 0, 0)}}
	for _, factor := range [][]uint32{list(6), list(0, 1), list(top, top, 5)} {
		n, d := new(big.Int).Mul(bigOf(r.Num), bigOf(factor)), new(big.Int).Mul(bigOf(r.Den), bigOf(factor))
		all = append(all, api.Rat{Neg: r.Neg, Num: append(limbsOf(n), 0), Den: append(limbsOf(d), 0, 0)})
	}
	if valueOf(r).Sign() == 0 {
		all = append(all, zeros()...)
	}
	return all
}

// vecWritings are Vecs that are all read as v: each of its numbers is written in each way, beside other ones.
func vecWritings(v api.Vec) []api.Vec {
	x, y, z := writings(v.X), writings(v.Y), writings(v.Z)
	var all []api.Vec
	for i := range max(len(x), len(y), len(z)) {
		all = append(all,
			api.Vec{X: x[i%len(x)], Y: y[(i+1)%len(y)], Z: z[(i+2)%len(z)]},
			api.Vec{X: x[i%len(x)], Y: v.Y, Z: v.Z}, api.Vec{X: v.X, Y: y[i%len(y)], Z: v.Z}, api.Vec{X: v.X, Y: v.Y, Z: z[i%len(z)]},
		)
	}
	return all
}

// loose writes each number by a common divisor, and with limbs 0.
func loose(v api.Vec) api.Vec {
	return api.Vec{X: looseNumber(v.X), Y: looseNumber(v.Y), Z: looseNumber(v.Z)}
}

func looseNumber(r api.Rat) api.Rat { return writings(r)[4] }

// kinds are canonical numbers below 0, 0 and above 0, whole ones and ones with a Den, of one limb and of many.
func kinds() []api.Rat {
	return []api.Rat{
		none(), word("1"), word("-1"), word("5"), word("-2/3"), word("9/4"),
		above(list(1, 2, 3, 4, 5), list(1)), below(list(0, 0, 0, 1), list(1)), above(list(1), list(0, 0, 1)), below(run(4, top), list(0, 0, 0, 8)),
	}
}

// places are Vecs in each of whose places each kind of number stands, beside other kinds.
func places() []api.Vec {
	all := kinds()
	var out []api.Vec
	for i, r := range all {
		out = append(out, api.Vec{X: r, Y: none(), Z: none()}, api.Vec{X: none(), Y: r, Z: none()}, api.Vec{X: none(), Y: none(), Z: r})
		out = append(out, api.Vec{X: r, Y: all[(i+3)%len(all)], Z: all[(i+7)%len(all)]}, api.Vec{X: r, Y: r, Z: r})
	}
	return out
}

// near makes a Vec of few small numbers, so that many are the same; some are not canonical.
func near(r *rand.Rand) api.Vec {
	small := func() api.Rat {
		n, d := r.Int64N(7)-3, 1+r.Int64N(2)
		return writings(ratOf(big.NewRat(n, d)))[r.IntN(3)]
	}
	return api.Vec{X: small(), Y: small(), Z: small()}
}

// anyPoint makes small numbers and long ones.
func anyPoint(r *rand.Rand) api.Vec {
	switch r.IntN(4) {
	case 0:
		return point(r, 3)
	case 1:
		return places()[r.IntN(50)]
	default:
		return near(r)
	}
}

func anyPoints(r *rand.Rand, n int) []api.Vec {
	l := make([]api.Vec, n)
	for i := range l {
		l[i] = anyPoint(r)
	}
	return l
}

// anyBox makes boxes of which many have a Lo above their Hi.
func anyBox(r *rand.Rand) api.Box {
	lo, hi := anyPoint(r), anyPoint(r)
	if r.IntN(3) > 0 {
		return sorted(lo, hi)
	}
	return api.Box{Lo: lo, Hi: hi}
}

func anyBoxes(r *rand.Rand, n int) []api.Box {
	l := make([]api.Box, n)
	for i := range l {
		l[i] = anyBox(r)
	}
	return l
}

// sorted answers the box between two points, wherever they lie, its numbers written as theirs.
func sorted(p, q api.Vec) api.Box {
	for _, pair := range [][2]*api.Rat{{&p.X, &q.X}, {&p.Y, &q.Y}, {&p.Z, &q.Z}} {
		if valueOf(*pair[0]).Cmp(valueOf(*pair[1])) > 0 {
			*pair[0], *pair[1] = *pair[1], *pair[0]
		}
	}
	return api.Box{Lo: p, Hi: q}
}

func boxWords(lo, hi string) api.Box { return api.Box{Lo: words(lo), Hi: words(hi)} }

// cube is the box of the document's examples.
func cube() api.Box { return boxWords("0 0 0", "1 1 1") }

// slanted is a box that has other numbers on each side.
func slanted() api.Box { return boxWords("-2 1/3 5", "7/2 4 11") }

// full are boxes that hold something: thick ones, flat ones, such as are a row or a point, of one limb and of many.
func full() []api.Box {
	all := []api.Box{
		cube(), slanted(), boxWords("0 0 0", "0 0 0"), {}, boxWords("-1 -1 -1", "1 1 1"),
		boxWords("1 2 3", "1 4 5"), boxWords("1 2 3", "4 2 5"), boxWords("1 2 3", "4 5 3"),
		boxWords("-3 2 -1/2", "-1 2 -1/2"), boxWords("-3 2 -1/2", "-3 5 -1/2"), boxWords("-3 2 -1/2", "-3 2 0"), boxWords("5 -6 7/2", "5 -6 7/2"),
		{Lo: words("0 0 0"), Hi: vecOf(values{tiny(), tiny(), tiny()})},
	}
	return append(all, sorted(places()[33], places()[28]), sorted(places()[38], places()[44]), sorted(places()[48], places()[23]))
}

// void are boxes whose Lo is above their Hi: in each number by itself, in two, in all, by little, by much.
func void() []api.Box {
	less := ratOf(opposite(tiny()))
	return []api.Box{
		boxWords("2 0 0", "1 1 1"), boxWords("0 2 0", "1 1 1"), boxWords("0 0 2", "1 1 1"),
		boxWords("2 2 0", "1 1 1"), boxWords("2 0 2", "1 1 1"), boxWords("0 2 2", "1 1 1"), boxWords("2 2 2", "1 1 1"), boxWords("7/2 4 11", "-2 1/3 5"),
		{Hi: api.Vec{X: less}}, {Hi: api.Vec{Y: less}}, {Hi: api.Vec{Z: less}},
		{Lo: places()[33], Hi: places()[28]}, {Lo: places()[28], Hi: places()[33]},
	}
}

// boxWritings are boxes that are all read as b: both corners are written in each way, together and by themselves.
func boxWritings(b api.Box) []api.Box {
	lo, hi := vecWritings(b.Lo), vecWritings(b.Hi)
	var all []api.Box
	for i := range max(len(lo), len(hi)) {
		all = append(all, api.Box{Lo: lo[i%len(lo)], Hi: hi[(i+5)%len(hi)]}, api.Box{Lo: lo[i%len(lo)], Hi: b.Hi}, api.Box{Lo: b.Lo, Hi: hi[i%len(hi)]})
	}
	return all
}

func looseBox(b api.Box) api.Box { return api.Box{Lo: loose(b.Lo), Hi: loose(b.Hi)} }

// isHeld answers by another reckoner whether the box holds what has these numbers.
func isHeld(b api.Box, p values) bool {
	lo, hi := valuesOf(b.Lo), valuesOf(b.Hi)
	count := 0
	for place, value := range p {
		if value.Cmp(lo[place]) != -1 && hi[place].Cmp(value) != -1 {
			count++
		}
	}
	return count == 3
}

// isNothing answers whether a box holds nothing at all.
func isNothing(b api.Box) bool { return !isHeld(b, valuesOf(b.Lo)) }

func scaled(k *big.Rat, l values) values {
	return values{times(k, l[0]), times(k, l[1]), times(k, l[2])}
}

func sumOf(a, b values) values {
	return values{plus(a[0], b[0]), plus(a[1], b[1]), plus(a[2], b[2])}
}

func atOf(o, d api.Vec, s *big.Rat) values { return sumOf(valuesOf(o), scaled(s, valuesOf(d))) }

func isBox(t *testing.T, got, want api.Box, what ...any) {
	t.Helper()
	isVec(t, got.Lo, want.Lo, "Lo", what)
	isVec(t, got.Hi, want.Hi, "Hi", what)
}

func isHolding(t *testing.T, b api.Box, p api.Vec, want bool) {
	t.Helper()
	if Holds(b, p) != want {
		t.Errorf("Holds(%v, %v) is %v", b, p, !want)
	}
}
