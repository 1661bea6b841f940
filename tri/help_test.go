package tri

import (
	"math/big"
	"math/rand/v2"
	"slices"
	"strings"
	"testing"

	"penumbra/api"
)

const top = 1<<32 - 1

func list(limbs ...uint32) []uint32 { return limbs }

// run answers a list of n limbs that are all the same.
func run(n int, limb uint32) []uint32 { return slices.Repeat([]uint32{limb}, n) }

func above(num, den []uint32) api.Rat { return api.Rat{Num: num, Den: den} }

func below(num, den []uint32) api.Rat { return api.Rat{Neg: true, Num: num, Den: den} }

// none is the canonical 0, and origin three of them: what stands beside a false.
func none() api.Rat { return above(nil, list(1)) }

func origin() api.Vec { return api.Vec{X: none(), Y: none(), Z: none()} }

// source answers what makes the same numbers in each run.
func source(seed uint64) *rand.Rand { return rand.New(rand.NewPCG(seed, 8)) }

// natural makes a list of at most most limbs; it may end in limbs 0.
func natural(r *rand.Rand, most int) []uint32 {
	limbs := make([]uint32, r.IntN(most+1))
	for i := range limbs {
		limbs[i] = []uint32{0, 1, top, r.Uint32(), r.Uint32() >> r.IntN(32)}[r.IntN(5)]
	}
	return limbs
}

// number makes a Rat that is mostly not canonical: with limbs 0 at the end, common divisors, a Den that is 0.
func number(r *rand.Rand, most int) api.Rat {
	num, den := natural(r, most), natural(r, most)
	if r.IntN(2) == 0 {
		factor := bigOf(natural(r, 2))
		num, den = limbsOf(new(big.Int).Mul(factor, bigOf(num))), limbsOf(new(big.Int).Mul(factor, bigOf(den)))
	}
	if r.IntN(4) == 0 {
		den = list(1)
	}
	return api.Rat{Neg: r.IntN(2) == 0, Num: num, Den: append(den, run(r.IntN(3), 0)...)}
}

// point makes a Vec of three such numbers, and anyTri a Tri of three such Vecs.
func point(r *rand.Rand, most int) api.Vec {
	return api.Vec{X: number(r, most), Y: number(r, most), Z: number(r, most)}
}

func anyTri(r *rand.Rand, most int) api.Tri {
	return api.Tri{A: point(r, most), B: point(r, most), C: point(r, most)}
}

func bigOf(a []uint32) *big.Int {
	sum := new(big.Int)
	for _, limb := range slices.Backward(a) {
		sum.Lsh(sum, 32)
		sum.Or(sum, new(big.Int).SetUint64(uint64(limb)))
	}
	return sum
}

func limbsOf(n *big.Int) []uint32 {
	bytes := n.FillBytes(make([]byte, (n.BitLen()+31)/32*4))
	limbs := make([]uint32, len(bytes)/4)
	for i, b := range bytes {
		place := len(bytes) - 1 - i
		limbs[place/4] |= uint32(b) << (place % 4 * 8)
	}
	return limbs
}

// valueOf reads any Rat, by another reckoner.
func valueOf(r api.Rat) *big.Rat {
	den := bigOf(r.Den)
	if den.Sign() == 0 {
		return new(big.Rat)
	}
	value := new(big.Rat).SetFrac(bigOf(r.Num), den)
	if r.Neg {
		value.Neg(value)
	}
	return value
}

// ratOf answers the canonical Rat, by another reckoner.
func ratOf(value *big.Rat) api.Rat {
	return api.Rat{Neg: value.Sign() < 0, Num: limbsOf(new(big.Int).Abs(value.Num())), Den: limbsOf(value.Denom())}
}

// values are the numbers of a Vec, by another reckoner.
type values [3]*big.Rat

func valuesOf(v api.Vec) values { return values{valueOf(v.X), valueOf(v.Y), valueOf(v.Z)} }

func vecOf(l values) api.Vec { return api.Vec{X: ratOf(l[0]), Y: ratOf(l[1]), Z: ratOf(l[2])} }

func plus(x, y *big.Rat) *big.Rat { return new(big.Rat).Add(x, y) }

func minus(x, y *big.Rat) *big.Rat { return new(big.Rat).Sub(x, y) }

func times(x, y *big.Rat) *big.Rat { return new(big.Rat).Mul(x, y) }

func over(x, y *big.Rat) *big.Rat { return new(big.Rat).Quo(x, y) }

func opposite(x *big.Rat) *big.Rat { return new(big.Rat).Neg(x) }

func one() *big.Rat { return big.NewRat(1, 1) }

func dotOf(a, b values) *big.Rat {
	return plus(plus(times(a[0], b[0]), times(a[1], b[1])), times(a[2], b[2]))
}

func scaled(k *big.Rat, l values) values {
	return values{times(k, l[0]), times(k, l[1]), times(k, l[2])}
}

// sumOf adds the values at each place.
func sumOf(l ...values) values {
	out := values{new(big.Rat), new(big.Rat), new(big.Rat)}
	for _, v := range l {
		for place, value := range v {
			out[place].Add(out[place], value)
		}
	}
	return out
}

func lessOf(a, b values) values { return sumOf(a, scaled(big.NewRat(-1, 1), b)) }

// crossOf goes round the places.
func crossOf(a, b values) values {
	var out values
	for place := range out {
		next, last := (place+1)%3, (place+2)%3
		out[place] = minus(times(a[next], b[last]), times(a[last], b[next]))
	}
	return out
}

// normalOf reckons the normal by the corners alone, going round, without a side.
func normalOf(t api.Tri) values {
	a, b, c := valuesOf(t.A), valuesOf(t.B), valuesOf(t.C)
	return sumOf(crossOf(a, b), crossOf(b, c), crossOf(c, a))
}

// pointOf reckons the point by the corners' weights.
func pointOf(t api.Tri, u, v *big.Rat) values {
	rest := minus(minus(one(), u), v)
	return sumOf(scaled(rest, valuesOf(t.A)), scaled(u, valuesOf(t.B)), scaled(v, valuesOf(t.C)))
}

func atOf(o, d api.Vec, s *big.Rat) values { return sumOf(valuesOf(o), scaled(s, valuesOf(d))) }

func word(text string) api.Rat {
	value, ok := new(big.Rat).SetString(text)
	if !ok {
		panic("no number: " + text)
	}
	return ratOf(value)
}

// words makes a Vec out of three numbers as big.Rat reads them: canonical ones.
func words(text string) api.Vec {
	l := strings.Fields(text)
	if len(l) != 3 {
		panic("no Vec: " + text)
	}
	return api.Vec{X: word(l[0]), Y: word(l[1]), Z: word(l[2])}
}

func triWords(a, b, c string) api.Tri { return api.Tri{A: words(a), B: words(b), C: words(c)} }

// tiny is a number above 0 that takes many limbs to tell from 0.
func tiny() *big.Rat {
	return new(big.Rat).SetFrac(big.NewInt(1), new(big.Int).Lsh(big.NewInt(1), 100))
}

// bent answers the triangle with its corners in another order.
func bent(t api.Tri, order string) api.Tri {
	corners := map[byte]api.Vec{'A': t.A, 'B': t.B, 'C': t.C}
	return api.Tri{A: corners[order[0]], B: corners[order[1]], C: corners[order[2]]}
}

// moved answers the triangle with p added to each corner.
func moved(t api.Tri, p api.Vec) api.Tri {
	by := valuesOf(p)
	return api.Tri{A: vecOf(sumOf(valuesOf(t.A), by)), B: vecOf(sumOf(valuesOf(t.B), by)), C: vecOf(sumOf(valuesOf(t.C), by))}
}

// greater answers the triangle with each corner k times as far from 0 0 0.
func greater(t api.Tri, k *big.Rat) api.Tri {
	return api.Tri{A: vecOf(scaled(k, valuesOf(t.A))), B: vecOf(scaled(k, valuesOf(t.B))), C: vecOf(scaled(k, valuesOf(t.C)))}
}

func equal(a, b api.Rat) bool {
	return a.Neg == b.Neg && slices.Equal(a.Num, b.Num) && slices.Equal(a.Den, b.Den)
}

// isNumber holds against the wanted Rat limb by limb, so that what is not canonical is seen.
func isNumber(t *testing.T, got, want api.Rat, what ...any) {
	t.Helper()
	if !equal(got, want) {
		t.Errorf("%v: got %v, want %v", what, got, want)
	}
}

func isVec(t *testing.T, got, want api.Vec, what ...any) {
	t.Helper()
	for i, number := range numbersOf(got) {
		isNumber(t, number, numbersOf(want)[i], "XYZ"[i:i+1], what)
	}
}

// numbersOf are the numbers of all of the Vecs, one behind the other.
func numbersOf(l ...api.Vec) []api.Rat {
	var out []api.Rat
	for _, v := range l {
		out = append(out, v.X, v.Y, v.Z)
	}
	return out
}

// zeros are many ways to write 0.
func zeros() []api.Rat {
	return []api.Rat{
		{}, {Neg: true}, above(nil, list(1)), above(list(), list(1)), below(nil, list(1)), below(list(0), list(1)), above(list(0, 0), list(7, 0)),
		above(list(1), nil), below(list(1), nil), above(list(1), list()), below(list(6, 5), list(0)), above(list(4), list(0, 0, 0)), below(list(0, 0), list(0)),
		below(run(20, top), run(9, 0)), above(nil, run(9, top)),
	}
}

// writings are Rats that are all read as the number r.
func writings(r api.Rat) []api.Rat {
	all := []api.Rat{r, {Neg: r.Neg, Num: append(slices.Clone(r.Num), 0), Den: append(slices.Clone(r.Den), 0, 0)}}
	for _, factor := range [][]uint32{list(6), list(0, 1), list(top, top, 5)} {
		n, d := new(big.Int).Mul(bigOf(r.Num), bigOf(factor)), new(big.Int).Mul(bigOf(r.Den), bigOf(factor))
		all = append(all, api.Rat{Neg: r.Neg, Num: append(limbsOf(n), 0), Den: append(limbsOf(d), 0, 0)})
	}
	if valueOf(r).Sign() == 0 {
		all = append(all, zeros()...)
	}
	return all
}

// vecWritings are Vecs that are all read as v: each of its numbers is written in each way, beside other ones.
func vecWritings(v api.Vec) []api.Vec {
	x, y, z := writings(v.X), writings(v.Y), writings(v.Z)
	var all []api.Vec
	for i := range max(len(x), len(y), len(z)) {
		all = append(all,
			api.Vec{X: x[i%len(x)], Y: y[(i+1)%len(y)], Z: z[(i+2)%len(z)]},
			api.Vec{X: x[i%len(x)], Y: v.Y, Z: v.Z}, api.Vec{X: v.X, Y: y[i%len(y)], Z: v.Z}, api.Vec{X: v.X, Y: v.Y, Z: z[i%len(z)]},
		)
	}
	return all
}

// triWritings are triangles that are all read as t: each corner is written in each way, beside other ones, and by itself.
func triWritings(t api.Tri) []api.Tri {
	a, b, c := vecWritings(t.A), vecWritings(t.B), vecWritings(t.C)
	var all []api.Tri
	for i := range max(len(a), len(b), len(c)) {
		all = append(all,
			api.Tri{A: a[i%len(a)], B: b[(i+1)%len(b)], C: c[(i+2)%len(c)]},
			api.Tri{A: a[i%len(a)], B: t.B, C: t.C}, api.Tri{A: t.A, B: b[i%len(b)], C: t.C}, api.Tri{A: t.A, B: t.B, C: c[i%len(c)]},
		)
	}
	return all
}

// loose writes each number by a common divisor, and with limbs 0.
func loose(v api.Vec) api.Vec {
	return api.Vec{X: looseNumber(v.X), Y: looseNumber(v.Y), Z: looseNumber(v.Z)}
}

func looseNumber(r api.Rat) api.Rat { return writings(r)[4] }

func looseTri(t api.Tri) api.Tri { return api.Tri{A: loose(t.A), B: loose(t.B), C: loose(t.C)} }

// kinds are canonical numbers below 0, 0 and above 0, whole ones and ones with a Den, of one limb and of many.
func kinds() []api.Rat {
	return []api.Rat{
		none(), word("1"), word("-1"), word("5"), word("-2/3"), word("9/4"),
		above(list(1, 2, 3, 4, 5), list(1)), below(list(0, 0, 0, 1), list(1)), above(list(1), list(0, 0, 1)), below(run(4, top), list(0, 0, 0, 8)),
	}
}

// places are Vecs in each of whose places each kind of number stands, beside other kinds.
func places() []api.Vec {
	all := kinds()
	var out []api.Vec
	for i, r := range all {
		out = append(out, api.Vec{X: r, Y: none(), Z: none()}, api.Vec{X: none(), Y: r, Z: none()}, api.Vec{X: none(), Y: none(), Z: r})
		out = append(out, api.Vec{X: r, Y: all[(i+3)%len(all)], Z: all[(i+7)%len(all)]}, api.Vec{X: r, Y: r, Z: r})
	}
	return out
}

// unit is the triangle of the document's examples.
func unit() api.Tri { return triWords("0 0 0", "1 0 0", "0 1 0") }

// skew is a triangle that lies along no axis.
func skew() api.Tri { return triWords("1 2 3", "4 7 -2", "-3 5/2 11") }

// open are triangles whose normal is not 0 0 0: along each axis and along none, turned round, near to 0 0 0 and far, thin, of one limb and of many.
func open() []api.Tri {
	return []api.Tri{
		unit(),
		triWords("0 0 0", "0 1 0", "1 0 0"),
		triWords("5 0 0", "5 2 0", "5 0 3"),
		triWords("0 -7 1", "4 -7 1", "0 -7 2"),
		skew(),
		triWords("-1/2 2/3 0", "3/7 -5 1/11", "13/4 0 -1"),
		triWords("1 1 1", "1000001 1000000 1000001", "2 1 1"),
		triWords("2/3 1/3 2/3", "-2/3 2/3 1/3", "-1/3 -2/3 2/3"),
		{A: places()[33], B: places()[28], C: places()[48]},
		{A: places()[38], B: places()[44], C: places()[43]},
	}
}

// shut are triangles whose corners lie in a row, in each order, or of which two or three are the same.
func shut() []api.Tri {
	long := places()[33]
	return []api.Tri{
		{},
		triWords("0 0 0", "0 0 0", "0 0 0"),
		triWords("1 -2 3/4", "1 -2 3/4", "1 -2 3/4"),
		triWords("1 2 3", "1 2 3", "4 -5 6"),
		triWords("1 2 3", "4 -5 6", "1 2 3"),
		triWords("4 -5 6", "1 2 3", "1 2 3"),
		triWords("0 0 0", "1 0 0", "2 0 0"),
		triWords("1 0 0", "0 0 0", "2 0 0"),
		triWords("1 1 0", "1 2 0", "1 0 0"),
		triWords("1/2 1/3 -1/5", "3/2 7/3 14/5", "-1/2 -5/3 -16/5"),
		triWords("0 0 0", "1 2 3", "-1 -2 -3"),
		triWords("2 3 5", "2 3 7", "2 3 -1/2"),
		{A: long, B: long, C: words("1 2 3")},
		{A: origin(), B: long, C: vecOf(scaled(big.NewRat(-7, 3), valuesOf(long)))},
	}
}

func manyTris() []api.Tri { return append(open(), shut()...) }
