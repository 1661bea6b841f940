package root

import (
	"fmt"
	"math/big"
	"testing"

	"penumbra/nat"
)

// P2.1: the document's examples and the edges that it names.
func TestGcdOfNamedNaturals(t *testing.T) {
	tests := []struct{ a, b, want []uint32 }{
		{list(12), list(18), list(6)},
		{nil, list(0, 1), list(0, 1)},
		{list(0, 1), nil, list(0, 1)},
		{nil, nil, nil},
		{list(), list(), nil},
		{list(0), list(0, 0), nil},
		{list(), list(5, 0), list(5)},
		{list(5, 0, 0), list(0), list(5)},
		{list(0, 0, 0), list(1, 2, 3, 4, 0, 0), list(1, 2, 3, 4)},
		{list(1, 2, 3, 4, 0, 0), nil, list(1, 2, 3, 4)},
		{list(12, 0, 0, 0), list(18, 0), list(6)},
		{list(1), list(1), list(1)},
		{list(1), run(9, top), list(1)},
		{run(9, top), list(1), list(1)},
		{list(7), list(7), list(7)},
		{list(7), list(13), list(1)},
		{list(top), list(top - 1), list(1)},
		{list(0, 1), list(top), list(1)},
		{list(0, 1), list(0, 0, 1), list(0, 1)},
		{list(0, 0, 0, 0, 8), list(0, 0, 0, 12), list(0, 0, 0, 4)},
		{list(0, 0, 0, 6), list(0, 0, 0, 4), list(0, 0, 0, 2)},
		{run(6, top), run(4, top), run(2, top)},
		{run(60, top), run(40, top), run(20, top)},
		{run(4, top), run(4, top), run(4, top)},
		{list(1, 2, 3, 4), list(1, 2, 3, 4, 0), list(1, 2, 3, 4)},
		{list(0, 0, 0, 1), list(top, top, top), list(1)},
		{list(9, 0, 0, 0, 0, 0, 0, 0, 0, 1), list(3), list(1)},
		{list(6, 0, 0, 0, 0, 0, 0, 0, 0, 6), list(3), list(3)},
	}
	for _, test := range tests {
		isSame(t, fmt.Sprint(test.a, test.b), Gcd(test.a, test.b), test.want)
	}
}

// P2.1: all pairs of small naturals, with the divisors tried one by one.
func TestGcdOfSmallNaturals(t *testing.T) {
	for a := range uint32(70) {
		for b := range uint32(70) {
			want := a | b
			for d := uint32(1); a > 0 && b > 0 && d <= a; d++ {
				if a%d == 0 && b%d == 0 {
					want = d
				}
			}
			isSame(t, fmt.Sprint(a, b), Gcd(list(a), list(b)), nat.Of(uint64(want)))
		}
	}
}

func gcdIs(t *testing.T, a, b, want *big.Int) {
	t.Helper()
	x, y := limbsOf(a), limbsOf(b)
	isSame(t, fmt.Sprint(x, y), Gcd(x, y), limbsOf(want))
	isSame(t, fmt.Sprint(y, x), Gcd(y, x), limbsOf(want))
}

// P2.1: naturals of all lengths, with common factors of all lengths.
func TestGcdOfManyNaturals(t *testing.T) {
	r := source(1)
	for range 20000 {
		factor := plus(natural(r, 1+r.IntN(12)), 1)
		a, b := times(natural(r, 1+r.IntN(12)), factor), times(natural(r, 1+r.IntN(12)), factor)
		gcdIs(t, a, b, new(big.Int).GCD(nil, nil, a, b))
	}
}

// P2.1: neighbours have no common divisor but 1, and a factor of both is theirs alone.
func TestGcdOfNeighbours(t *testing.T) {
	r := source(2)
	for range 2000 {
		a, factor := plus(natural(r, 12), 1), plus(natural(r, 8), 1)
		gcdIs(t, times(a, factor), times(plus(a, 1), factor), factor)
	}
}

// P2.1: Fibonacci's naturals take the most steps of all.
func TestGcdOfFibonacci(t *testing.T) {
	a, b := big.NewInt(0), big.NewInt(1)
	factor := bigOf(list(5, 0, top, 9))
	for range 3000 {
		a, b = b, new(big.Int).Add(a, b)
		gcdIs(t, a, b, big.NewInt(1))
		gcdIs(t, times(a, factor), times(b, factor), factor)
	}
}

// P2.1: naturals that are made from Euclid's quotients, of any size, from the divisor on.
func TestGcdOfChosenQuotients(t *testing.T) {
	r := source(3)
	for range 4000 {
		divisor := plus(natural(r, 4), 1)
		great, small := divisor, new(big.Int)
		longest := []int{1, 2, 16, 31, 32, 33, 64, 100}[r.IntN(8)]
		for range 1 + r.IntN(60) {
			quotient := new(big.Int).Rsh(bigOf(list(r.Uint32(), r.Uint32(), r.Uint32(), r.Uint32())), uint(128-r.IntN(longest)-1))
			great, small = new(big.Int).Add(times(great, plus(quotient, 1)), small), great
		}
		gcdIs(t, great, small, divisor)
	}
}

func hasRest(a, b []uint32) bool {
	_, rest, ok := nat.DivMod(a, b)
	return !ok || len(rest) > 0
}

// P2.3: a common factor is a factor of the divisor; divided by it, both have no common divisor but 1.
func TestGcdDividesAndIsDivided(t *testing.T) {
	r := source(4)
	for range 3000 {
		factor := limbsOf(plus(natural(r, 5), 1))
		a, b := nat.Mul(limbsOf(plus(natural(r, 8), 1)), factor), nat.Mul(limbsOf(plus(natural(r, 8), 1)), factor)
		d := Gcd(a, b)
		if hasRest(a, d) || hasRest(b, d) {
			t.Errorf("%v does not divide %v and %v", d, a, b)
		}
		if hasRest(d, factor) {
			t.Errorf("%v divides %v and %v, but not %v", factor, a, b, d)
		}
		x, _, _ := nat.DivMod(a, d)
		y, _, _ := nat.DivMod(b, d)
		isSame(t, "what is left in common", Gcd(x, y), list(1))
	}
}

// P2.3: each divisor of both, tried one by one, divides the greatest one.
func TestEachCommonDivisorDividesGcd(t *testing.T) {
	for _, p := range [][2]uint32{{360, 840}, {5040, 7200}, {0, 60}, {97, 360}, {1 << 12, 6 << 9}} {
		d := Gcd(list(p[0]), list(p[1]))
		for n := uint32(1); n <= 7200; n++ {
			if p[0]%n == 0 && p[1]%n == 0 && hasRest(d, list(n)) {
				t.Errorf("%d divides %v, but not %v", n, p, d)
			}
		}
	}
}
