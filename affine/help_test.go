package affine

import (
	"math/big"
	"math/rand/v2"
	"slices"
	"strings"
	"testing"

	"penumbra/api"
)

const top = 1<<32 - 1

func list(limbs ...uint32) []uint32 { return limbs }

// run answers a list of n limbs that are all the same.
func run(n int, limb uint32) []uint32 { return slices.Repeat([]uint32{limb}, n) }

func above(num, den []uint32) api.Rat { return api.Rat{Num: num, Den: den} }

func below(num, den []uint32) api.Rat { return api.Rat{Neg: true, Num: num, Den: den} }

// none is the canonical 0, and origin three of them.
func none() api.Rat { return above(nil, list(1)) }

func origin() api.Vec { return api.Vec{X: none(), Y: none(), Z: none()} }

// source answers what makes the same numbers in each run.
func source(seed uint64) *rand.Rand { return rand.New(rand.NewPCG(seed, 7)) }

// natural makes a list of at most most limbs; it may end in limbs 0.
func natural(r *rand.Rand, most int) []uint32 {
	limbs := make([]uint32, r.IntN(most+1))
	for i := range limbs {
		limbs[i] = []uint32{0, 1, top, r.Uint32(), r.Uint32() >> r.IntN(32)}[r.IntN(5)]
	}
	return limbs
}

// number makes a Rat that is mostly not canonical: with limbs 0 at the end, common divisors, a Den that is 0.
func number(r *rand.Rand, most int) api.Rat {
	num, den := natural(r, most), natural(r, most)
	if r.IntN(2) == 0 {
		factor := bigOf(natural(r, 2))
		num, den = limbsOf(new(big.Int).Mul(factor, bigOf(num))), limbsOf(new(big.Int).Mul(factor, bigOf(den)))
	}
	if r.IntN(4) == 0 {
		den = list(1)
	}
	return api.Rat{Neg: r.IntN(2) == 0, Num: num, Den: append(den, run(r.IntN(3), 0)...)}
}

// point makes a Vec of three such numbers, and anyMap a Map of four such Vecs.
func point(r *rand.Rand, most int) api.Vec {
	return api.Vec{X: number(r, most), Y: number(r, most), Z: number(r, most)}
}

func anyMap(r *rand.Rand, most int) api.Map {
	return api.Map{X: point(r, most), Y: point(r, most), Z: point(r, most), Move: point(r, most)}
}

func bigOf(a []uint32) *big.Int {
	sum := new(big.Int)
	for _, limb := range slices.Backward(a) {
		sum.Lsh(sum, 32)
		sum.Or(sum, new(big.Int).SetUint64(uint64(limb)))
	}
	return sum
}

func limbsOf(n *big.Int) []uint32 {
	bytes := n.FillBytes(make([]byte, (n.BitLen()+31)/32*4))
	limbs := make([]uint32, len(bytes)/4)
	for i, b := range bytes {
		place := len(bytes) - 1 - i
		limbs[place/4] |= uint32(b) << (place % 4 * 8)
	}
	return limbs
}

// valueOf reads any Rat, by another reckoner.
func valueOf(r api.Rat) *big.Rat {
	den := bigOf(r.Den)
	if den.Sign() == 0 {
		return new(big.Rat)
	}
	value := new(big.Rat).SetFrac(bigOf(r.Num), den)
	if r.Neg {
		value.Neg(value)
	}
	return value
}

// ratOf answers the canonical Rat, by another reckoner.
func ratOf(value *big.Rat) api.Rat {
	return api.Rat{Neg: value.Sign() < 0, Num: limbsOf(new(big.Int).Abs(value.Num())), Den: limbsOf(value.Denom())}
}

// values are the numbers of a Vec, by another reckoner, and rows those of the rows of a Map.
type values [3]*big.Rat

type rows [3]values

func valuesOf(v api.Vec) values { return values{valueOf(v.X), valueOf(v.Y), valueOf(v.Z)} }

func vecOf(l values) api.Vec { return api.Vec{X: ratOf(l[0]), Y: ratOf(l[1]), Z: ratOf(l[2])} }

func rowsOf(m api.Map) rows { return rows{valuesOf(m.X), valuesOf(m.Y), valuesOf(m.Z)} }

func mapOf(l rows, move values) api.Map {
	return api.Map{X: vecOf(l[0]), Y: vecOf(l[1]), Z: vecOf(l[2]), Move: vecOf(move)}
}

func plus(x, y *big.Rat) *big.Rat { return new(big.Rat).Add(x, y) }

func minus(x, y *big.Rat) *big.Rat { return new(big.Rat).Sub(x, y) }

func times(x, y *big.Rat) *big.Rat { return new(big.Rat).Mul(x, y) }

func over(x, y *big.Rat) *big.Rat { return new(big.Rat).Quo(x, y) }

func dotOf(a, b values) *big.Rat {
	return plus(plus(times(a[0], b[0]), times(a[1], b[1])), times(a[2], b[2]))
}

func scaled(k *big.Rat, l values) values {
	return values{times(k, l[0]), times(k, l[1]), times(k, l[2])}
}

func sumOf(a, b values) values { return values{plus(a[0], b[0]), plus(a[1], b[1]), plus(a[2], b[2])} }

func lessOf(a, b values) values { return sumOf(a, scaled(big.NewRat(-1, 1), b)) }

// axis is the direction of length 1 along the axis at that place.
func axis(place int) values {
	out := values{new(big.Rat), new(big.Rat), new(big.Rat)}
	out[place].SetInt64(1)
	return out
}

func word(text string) api.Rat {
	value, ok := new(big.Rat).SetString(text)
	if !ok {
		panic("no number: " + text)
	}
	return ratOf(value)
}

// words makes a Vec out of three numbers as big.Rat reads them: canonical ones.
func words(text string) api.Vec {
	l := strings.Fields(text)
	if len(l) != 3 {
		panic("no Vec: " + text)
	}
	return api.Vec{X: word(l[0]), Y: word(l[1]), Z: word(l[2])}
}

func mapWords(x, y, z, move string) api.Map {
	return api.Map{X: words(x), Y: words(y), Z: words(z), Move: words(move)}
}

// standing is the map that takes each point to itself, number by number.
func standing() api.Map { return mapWords("1 0 0", "0 1 0", "0 0 1", "0 0 0") }

// whole makes a whole number, above 0 or below, of at most most limbs.
func whole(r *rand.Rand, most int) *big.Rat {
	n := new(big.Rat).SetInt(bigOf(natural(r, most)))
	if r.IntN(2) == 0 {
		n.Neg(n)
	}
	return n
}

// unit makes the numbers of a direction of length 1, by Lebesgue's rule of four squares.
func unit(r *rand.Rand, most int) values {
	m, n, p, q := whole(r, most), whole(r, most), whole(r, most), whole(r, most)
	first, second := plus(times(m, m), times(n, n)), plus(times(p, p), times(q, q))
	length := plus(first, second)
	if length.Sign() == 0 {
		return values{new(big.Rat), new(big.Rat), big.NewRat(-1, 1)}
	}
	two := big.NewRat(2, 1)
	all := scaled(over(big.NewRat(1, 1), length), values{minus(first, second), times(two, plus(times(m, q), times(n, p))), times(two, minus(times(n, q), times(m, p)))})
	turn := r.IntN(3)
	return values{all[turn], all[(turn+1)%3], all[(turn+2)%3]}
}

func equal(a, b api.Rat) bool {
	return a.Neg == b.Neg && slices.Equal(a.Num, b.Num) && slices.Equal(a.Den, b.Den)
}

// isNumber holds against the wanted Rat limb by limb, so that what is not canonical is seen.
func isNumber(t *testing.T, got, want api.Rat, what ...any) {
	t.Helper()
	if !equal(got, want) {
		t.Errorf("%v: got %v, want %v", what, got, want)
	}
}

func isVec(t *testing.T, got, want api.Vec, what ...any) {
	t.Helper()
	for i, number := range numbersOf(got) {
		isNumber(t, number, numbersOf(want)[i], "XYZ"[i:i+1], what)
	}
}

func isMap(t *testing.T, got, want api.Map, what ...any) {
	t.Helper()
	isVec(t, got.X, want.X, "row X", what)
	isVec(t, got.Y, want.Y, "row Y", what)
	isVec(t, got.Z, want.Z, "row Z", what)
	isVec(t, got.Move, want.Move, "Move", what)
}

// numbersOf are the numbers of all of the Vecs, one behind the other.
func numbersOf(l ...api.Vec) []api.Rat {
	var out []api.Rat
	for _, v := range l {
		out = append(out, v.X, v.Y, v.Z)
	}
	return out
}

func numbersOfMaps(l ...api.Map) []api.Rat {
	var out []api.Rat
	for _, m := range l {
		out = append(out, numbersOf(m.X, m.Y, m.Z, m.Move)...)
	}
	return out
}

// zeros are many ways to write 0.
func zeros() []api.Rat {
	return []api.Rat{
		{}, {Neg: true}, above(nil, list(1)), above(list(), list(1)), below(nil, list(1)), below(list(0), list(1)), above(list(0, 0), list(7, 0)),
		above(list(1), nil), below(list(1), nil), above(list(1), list()), below(list(6, 5), list(0)), above(list(4), list(0, 0, 0)), below(list(0, 0), list(0)),
		below(run(20, top), run(9, 0)), above(nil, run(9, top)),
	}
}

// writings are Rats that are all read as the number r.
func writings(r api.Rat) []api.Rat {
	all := []api.Rat{r, {Neg: r.Neg, Num: append(slices.Clone(r.Num), 0), Den: append(slices.Clone(r.Den), 0, 0)}}
	for _, factor := range [][]uint32{list(6), list(0, 1), list(top, top, 5)} {
		n, d := new(big.Int).Mul(bigOf(r.Num), bigOf(factor)), new(big.Int).Mul(bigOf(r.Den), bigOf(factor))
		all = append(all, api.Rat{Neg: r.Neg, Num: append(limbsOf(n), 0), Den: append(limbsOf(d), 0, 0)})
	}
	if valueOf(r).Sign() == 0 {
		all = append(all, zeros()...)
	}
	return all
}

// vecWritings are Vecs that are all read as v: each of its numbers is written in each way, beside other ones.
func vecWritings(v api.Vec) []api.Vec {
	x, y, z := writings(v.X), writings(v.Y), writings(v.Z)
	var all []api.Vec
	for i := range max(len(x), len(y), len(z)) {
		all = append(all,
			api.Vec{X: x[i%len(x)], Y: y[(i+1)%len(y)], Z: z[(i+2)%len(z)]},
			api.Vec{X: x[i%len(x)], Y: v.Y, Z: v.Z}, api.Vec{X: v.X, Y: y[i%len(y)], Z: v.Z}, api.Vec{X: v.X, Y: v.Y, Z: z[i%len(z)]},
		)
	}
	return all
}

// mapWritings are Maps that are all read as m.
func mapWritings(m api.Map) []api.Map {
	x, y, z, move := vecWritings(m.X), vecWritings(m.Y), vecWritings(m.Z), vecWritings(m.Move)
	var all []api.Map
	for i := range max(len(x), len(y), len(z), len(move)) {
		all = append(all, api.Map{X: x[i%len(x)], Y: y[(i+1)%len(y)], Z: z[(i+2)%len(z)], Move: move[(i+3)%len(move)]})
	}
	return all
}

// loose writes each number by a common divisor, and with limbs 0.
func loose(v api.Vec) api.Vec {
	return api.Vec{X: looseNumber(v.X), Y: looseNumber(v.Y), Z: looseNumber(v.Z)}
}

func looseNumber(r api.Rat) api.Rat { return writings(r)[4] }

func looseMap(m api.Map) api.Map {
	return api.Map{X: loose(m.X), Y: loose(m.Y), Z: loose(m.Z), Move: loose(m.Move)}
}

// kinds are canonical numbers below 0, 0 and above 0, whole ones and ones with a Den, of one limb and of many.
func kinds() []api.Rat {
	return []api.Rat{
		none(), word("1"), word("-1"), word("5"), word("-2/3"), word("9/4"),
		above(list(1, 2, 3, 4, 5), list(1)), below(list(0, 0, 0, 1), list(1)), above(list(1), list(0, 0, 1)), below(run(4, top), list(0, 0, 0, 8)),
	}
}

// places are Vecs in each of whose places each kind of number stands, beside other kinds.
func places() []api.Vec {
	all := kinds()
	var out []api.Vec
	for i, r := range all {
		out = append(out, api.Vec{X: r, Y: none(), Z: none()}, api.Vec{X: none(), Y: r, Z: none()}, api.Vec{X: none(), Y: none(), Z: r})
		out = append(out, api.Vec{X: r, Y: all[(i+3)%len(all)], Z: all[(i+7)%len(all)]}, api.Vec{X: r, Y: r, Z: r})
	}
	return out
}

// lengthOne are directions of length 1.
func lengthOne() []api.Vec {
	return []api.Vec{
		words("0 0 1"), words("0 0 -1"), words("1 0 0"), words("0 -1 0"),
		words("2/3 1/3 2/3"), words("-6/7 2/7 -3/7"), words("0 3/5 4/5"), words("-3/5 4/5 0"),
	}
}

// upright are maps whose Det is not 0: above 0 and below, whole and with a Den, of one limb and of many, with a Move and without.
func upright() []api.Map {
	return []api.Map{
		standing(),
		mapWords("1 0 0", "0 1 0", "0 0 1", "3 -5/2 7"),
		mapWords("1 0 0", "0 1 0", "0 0 -1", "0 0 2"),
		mapWords("0 1 0", "0 0 1", "1 0 0", "1 2 3"),
		mapWords("0 1 0", "1 0 0", "0 0 1", "-1 4 0"),
		mapWords("2 1 0", "0 1 0", "0 0 3", "1 1 1"),
		mapWords("1 2 3", "5 7 11", "13 17 19", "23 -29 31/2"),
		mapWords("1/2 -2/3 3", "0 7/5 -11", "-13 1/17 0", "1/19 0 -5/23"),
		mapWords("2/3 1/3 2/3", "-2/3 2/3 1/3", "-1/3 -2/3 2/3", "0 0 0"),
		{X: places()[33], Y: places()[28], Z: places()[48], Move: places()[38]},
	}
}

// lying are maps whose Det is 0: rows that are 0 0 0, the same, along each other, or in a plane.
func lying() []api.Map {
	return []api.Map{
		{},
		mapWords("0 0 0", "0 0 0", "0 0 0", "0 0 0"),
		mapWords("0 0 0", "2 -3 5", "7 11 -13", "1 2 3"),
		mapWords("2 -3 5", "0 0 0", "7 11 -13", "1 2 3"),
		mapWords("7 11 -13", "2 -3 5", "0 0 0", "1 2 3"),
		mapWords("1 0 0", "1 0 0", "0 0 1", "0 0 0"),
		mapWords("1 2 3", "1 2 3", "7 11 13", "5 0 -1/2"),
		mapWords("1 2 3", "7 11 13", "1 2 3", "5 0 -1/2"),
		mapWords("7 11 13", "1 2 3", "1 2 3", "5 0 -1/2"),
		mapWords("2/3 1 -4", "2/3 1 -4", "2/3 1 -4", "2/3 1 -4"),
		mapWords("1 -2 1/3", "-3 6 -1", "0 1 4", "0 0 9"),
		mapWords("1 2 3", "4 5 6", "7 8 9", "1 1 1"),
		mapWords("1/2 0 1/3", "0 1/5 -1/7", "1/2 1/5 4/21", "0 -2 0"),
		mapWords("1 0 0", "0 1 0", "0 0 0", "0 0 5"),
		mapWords("0 0 1", "0 0 -2", "0 0 3", "4 5 6"),
		{X: places()[33], Y: places()[28], Z: places()[28], Move: places()[48]},
	}
}

func manyMaps() []api.Map { return append(upright(), lying()...) }
