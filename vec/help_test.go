package vec

import (
	"math/big"
	"math/rand/v2"
	"slices"
	"testing"

	"penumbra/api"
)

const top = 1<<32 - 1

func list(limbs ...uint32) []uint32 { return limbs }

// run answers a list of n limbs that are all the same.
func run(n int, limb uint32) []uint32 { return slices.Repeat([]uint32{limb}, n) }

func above(num, den []uint32) api.Rat { return api.Rat{Num: num, Den: den} }

func below(num, den []uint32) api.Rat { return api.Rat{Neg: true, Num: num, Den: den} }

// none is the canonical 0, and origin three of them: what stands beside a false.
func none() api.Rat { return above(nil, list(1)) }

func origin() api.Vec { return api.Vec{X: none(), Y: none(), Z: none()} }

// source answers what makes the same numbers in each run.
func source(seed uint64) *rand.Rand { return rand.New(rand.NewPCG(seed, 5)) }

// natural makes a list of at most most limbs; it may end in limbs 0.
func natural(r *rand.Rand, most int) []uint32 {
	limbs := make([]uint32, r.IntN(most+1))
	for i := range limbs {
		limbs[i] = []uint32{0, 1, top, r.Uint32(), r.Uint32() >> r.IntN(32)}[r.IntN(5)]
	}
	return limbs
}

// number makes a Rat that is mostly not canonical: with limbs 0 at the end, common divisors, a Den that is 0.
func number(r *rand.Rand, most int) api.Rat {
	num, den := natural(r, most), natural(r, most)
	if r.IntN(2) == 0 {
		factor := bigOf(natural(r, 2))
		num, den = limbsOf(new(big.Int).Mul(factor, bigOf(num))), limbsOf(new(big.Int).Mul(factor, bigOf(den)))
	}
	if r.IntN(4) == 0 {
		den = list(1)
	}
	return api.Rat{Neg: r.IntN(2) == 0, Num: num, Den: append(den, run(r.IntN(3), 0)...)}
}

// point makes a Vec of three such numbers.
func point(r *rand.Rand, most int) api.Vec {
	return api.Vec{X: number(r, most), Y: number(r, most), Z: number(r, most)}
}

func bigOf(a []uint32) *big.Int {
	sum := new(big.Int)
	for _, limb := range slices.Backward(a) {
		sum.Lsh(sum, 32)
		sum.Or(sum, new(big.Int).SetUint64(uint64(limb)))
	}
	return sum
}

func limbsOf(n *big.Int) []uint32 {
	bytes := n.FillBytes(make([]byte, (n.BitLen()+31)/32*4))
	limbs := make([]uint32, len(bytes)/4)
	for i, b := range bytes {
		place := len(bytes) - 1 - i
		limbs[place/4] |= uint32(b) << (place % 4 * 8)
	}
	return limbs
}

// valueOf reads any Rat, by another reckoner.
func valueOf(r api.Rat) *big.Rat {
	den := bigOf(r.Den)
	if den.Sign() == 0 {
		return new(big.Rat)
	}
	value := new(big.Rat).SetFrac(bigOf(r.Num), den)
	if r.Neg {
		value.Neg(value)
	}
	return value
}

// ratOf answers the canonical Rat, by another reckoner.
func ratOf(value *big.Rat) api.Rat {
	return api.Rat{Neg: value.Sign() < 0, Num: limbsOf(new(big.Int).Abs(value.Num())), Den: limbsOf(value.Denom())}
}

// values are the numbers of a Vec, by another reckoner.
type values [3]*big.Rat

func valuesOf(v api.Vec) values { return values{valueOf(v.X), valueOf(v.Y), valueOf(v.Z)} }

func vecOf(l values) api.Vec { return api.Vec{X: ratOf(l[0]), Y: ratOf(l[1]), Z: ratOf(l[2])} }

// each answers the values that a rule tells of those at the same place of two lists.
func each(a, b values, rule func(x, y *big.Rat) *big.Rat) values {
	return values{rule(a[0], b[0]), rule(a[1], b[1]), rule(a[2], b[2])}
}

func plus(x, y *big.Rat) *big.Rat { return new(big.Rat).Add(x, y) }

func minus(x, y *big.Rat) *big.Rat { return new(big.Rat).Sub(x, y) }

func times(x, y *big.Rat) *big.Rat { return new(big.Rat).Mul(x, y) }

func dotOf(a, b values) *big.Rat {
	products := each(a, b, times)
	return plus(plus(products[0], products[1]), products[2])
}

// words makes a Vec out of numbers as big.Rat reads them: canonical ones.
func words(x, y, z string) api.Vec { return api.Vec{X: word(x), Y: word(y), Z: word(z)} }

func word(text string) api.Rat {
	value, ok := new(big.Rat).SetString(text)
	if !ok {
		panic("no number: " + text)
	}
	return ratOf(value)
}

func equal(a, b api.Rat) bool {
	return a.Neg == b.Neg && slices.Equal(a.Num, b.Num) && slices.Equal(a.Den, b.Den)
}

// isNumber holds against the wanted Rat limb by limb, so that what is not canonical is seen.
func isNumber(t *testing.T, got, want api.Rat, what ...any) {
	t.Helper()
	if !equal(got, want) {
		t.Errorf("%v: got %v, want %v", what, got, want)
	}
}

func isVec(t *testing.T, got, want api.Vec, what ...any) {
	t.Helper()
	if !equal(got.X, want.X) || !equal(got.Y, want.Y) || !equal(got.Z, want.Z) {
		t.Errorf("%v: got %v, want %v", what, got, want)
	}
}

// zeros are many ways to write 0.
func zeros() []api.Rat {
	return []api.Rat{
		{}, {Neg: true}, above(nil, list(1)), above(list(), list(1)), below(nil, list(1)), below(list(0), list(1)), above(list(0, 0), list(7, 0)),
		above(list(1), nil), below(list(1), nil), above(list(1), list()), below(list(6, 5), list(0)), above(list(4), list(0, 0, 0)), below(list(0, 0), list(0)),
		below(run(20, top), run(9, 0)), above(nil, run(9, top)),
	}
}

// writings are Rats that are all read as the number r.
func writings(r api.Rat) []api.Rat {
	all := []api.Rat{r, {Neg: r.Neg, Num: append(slices.Clone(r.Num), 0), Den: append(slices.Clone(r.Den), 0, 0)}}
	for _, factor := range [][]uint32{list(6), list(0, 1), list(top, top, 5)} {
		n, d := new(big.Int).Mul(bigOf(r.Num), bigOf(factor)), new(big.Int).Mul(bigOf(r.Den), bigOf(factor))
		all = append(all, api.Rat{Neg: r.Neg, Num: limbsOf(n), Den: limbsOf(d)})
	}
	if valueOf(r).Sign() == 0 {
		all = append(all, zeros()...)
	}
	return all
}

// vecWritings are Vecs that are all read as v: each of its numbers is written in each way, beside other ones.
func vecWritings(v api.Vec) []api.Vec {
	x, y, z := writings(v.X), writings(v.Y), writings(v.Z)
	var all []api.Vec
	for i := range max(len(x), len(y), len(z)) {
		all = append(all,
			api.Vec{X: x[i%len(x)], Y: y[(i+1)%len(y)], Z: z[(i+2)%len(z)]},
			api.Vec{X: x[i%len(x)], Y: v.Y, Z: v.Z}, api.Vec{X: v.X, Y: y[i%len(y)], Z: v.Z}, api.Vec{X: v.X, Y: v.Y, Z: z[i%len(z)]},
		)
	}
	return all
}

// kinds are canonical numbers below 0, 0 and above 0, whole ones and ones with a Den, of one limb and of many.
func kinds() []api.Rat {
	return []api.Rat{
		none(), word("1"), word("-1"), word("5"), word("-2/3"), word("9/4"),
		above(list(1, 2, 3, 4, 5), list(1)), below(list(0, 0, 0, 1), list(1)), above(list(1), list(0, 0, 1)), below(run(4, top), list(0, 0, 0, 8)),
	}
}

// mixed are Vecs in each of whose places each kind of number stands, beside other kinds.
func mixed() []api.Vec {
	all := kinds()
	var out []api.Vec
	for i, r := range all {
		out = append(out, api.Vec{X: r, Y: none(), Z: none()}, api.Vec{X: none(), Y: r, Z: none()}, api.Vec{X: none(), Y: none(), Z: r})
		out = append(out, api.Vec{X: r, Y: all[(i+3)%len(all)], Z: all[(i+7)%len(all)]}, api.Vec{X: r, Y: r, Z: r})
	}
	return out
}
