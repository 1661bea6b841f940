package decimal

import (
	"math/big"
	"math/rand/v2"
	"slices"
	"strings"
	"testing"

	"penumbra/api"
)

const top = 1<<32 - 1

func list(limbs ...uint32) []uint32 { return limbs }

// run answers a list of n limbs that are all the same.
func run(n int, limb uint32) []uint32 { return slices.Repeat([]uint32{limb}, n) }

func above(num, den []uint32) api.Rat { return api.Rat{Num: num, Den: den} }

func below(num, den []uint32) api.Rat { return api.Rat{Neg: true, Num: num, Den: den} }

// none is what stands beside an error: the canonical 0.
func none() api.Rat { return above(nil, list(1)) }

// noughts answers a text of n of them.
func noughts(n int) string { return strings.Repeat("0", n) }

// source answers what makes the same numbers in each run.
func source(seed uint64) *rand.Rand { return rand.New(rand.NewPCG(seed, 4)) }

// natural makes a list of at most most limbs; it may end in limbs 0.
func natural(r *rand.Rand, most int) []uint32 {
	limbs := make([]uint32, r.IntN(most+1))
	for i := range limbs {
		limbs[i] = []uint32{0, top, r.Uint32(), r.Uint32() >> r.IntN(32)}[r.IntN(4)]
	}
	return limbs
}

// number makes a Rat that is mostly not canonical: with limbs 0 at the end, common divisors, a Den that is 0.
func number(r *rand.Rand, most int) api.Rat {
	num, den := natural(r, most), natural(r, most)
	factor := bigOf(natural(r, 2))
	if r.IntN(2) == 0 && factor.Sign() > 0 {
		num, den = limbsOf(new(big.Int).Mul(factor, bigOf(num))), limbsOf(new(big.Int).Mul(factor, bigOf(den)))
	}
	if r.IntN(4) == 0 {
		den = list(1)
	}
	return api.Rat{Neg: r.IntN(2) == 0, Num: num, Den: append(den, run(r.IntN(3), 0)...)}
}

// someDigits makes a text of n digits, of which noughts and nines come often.
func someDigits(r *rand.Rand, n int) string {
	text := make([]byte, n)
	for i := range text {
		text[i] = "00999123456789"[r.IntN(14)]
	}
	return string(text)
}

func bigOf(a []uint32) *big.Int {
	sum := new(big.Int)
	for _, limb := range slices.Backward(a) {
		sum.Lsh(sum, 32)
		sum.Or(sum, new(big.Int).SetUint64(uint64(limb)))
	}
	return sum
}

func limbsOf(n *big.Int) []uint32 {
	bytes := n.FillBytes(make([]byte, (n.BitLen()+31)/32*4))
	limbs := make([]uint32, len(bytes)/4)
	for i, b := range bytes {
		place := len(bytes) - 1 - i
		limbs[place/4] |= uint32(b) << (place % 4 * 8)
	}
	return limbs
}

func powerOfTen(n int) *big.Int {
	return new(big.Int).Exp(big.NewInt(10), big.NewInt(int64(n)), nil)
}

// bigValue reads any Rat, by another reckoner.
func bigValue(r api.Rat) *big.Rat {
	den := bigOf(r.Den)
	if den.Sign() == 0 {
		return new(big.Rat)
	}
	value := new(big.Rat).SetFrac(bigOf(r.Num), den)
	if r.Neg {
		value.Neg(value)
	}
	return value
}

// ratOf answers the canonical Rat, by another reckoner.
func ratOf(value *big.Rat) api.Rat {
	return api.Rat{Neg: value.Sign() < 0, Num: limbsOf(new(big.Int).Abs(value.Num())), Den: limbsOf(value.Denom())}
}

// bigDigits answers the natural of digits, by another reckoner.
func bigDigits(t *testing.T, digits string) *big.Int {
	t.Helper()
	value, ok := new(big.Int).SetString(digits, 10)
	if !ok {
		t.Fatalf("no digits: %s", short(digits))
	}
	return value
}

func equal(a, b api.Rat) bool {
	return a.Neg == b.Neg && slices.Equal(a.Num, b.Num) && slices.Equal(a.Den, b.Den)
}

// short is a text for a message.
func short(text string) string {
	if len(text) > 80 {
		return text[:40] + " .. " + text[len(text)-40:]
	}
	return text
}

// isParsed holds against the wanted Rat limb by limb, so that what is not canonical is seen.
func isParsed(t *testing.T, text string, want api.Rat) {
	t.Helper()
	if got, e := Parse(text); e != api.OK || !equal(got, want) {
		t.Errorf("Parse %q: got %v, %d, want %v", short(text), got, e, want)
	}
}

func isRefused(t *testing.T, text string, want api.Errno) {
	t.Helper()
	if got, e := Parse(text); e != want || !equal(got, none()) {
		t.Errorf("Parse %q of %d bytes: got %v, %d, want %d", short(text), len(text), got, e, want)
	}
}

func isText(t *testing.T, what any, got, want string) {
	t.Helper()
	if got != want {
		t.Errorf("%v: got %q, want %q", what, short(got), short(want))
	}
}
