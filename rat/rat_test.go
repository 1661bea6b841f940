package rat

import (
	"fmt"
	"math"
	"math/big"
	"slices"
	"testing"

	"penumbra/api"
)

// P3.1: common divisors go, limbs 0 at the end go, signs stay.
func TestReadOfNamedNumbers(t *testing.T) {
	tests := []struct{ in, want api.Rat }{
		{above(list(2), list(3)), above(list(2), list(3))},
		{above(list(4, 0), list(6)), above(list(2), list(3))},
		{below(list(6), list(4, 0, 0)), below(list(3), list(2))},
		{below(list(5, 0), list(1, 0)), below(list(5), list(1))},
		{above(list(7), list(7)), above(list(1), list(1))},
		{below(list(7, 0, 0), list(7)), below(list(1), list(1))},
		{above(list(1), list(0, 0, 1)), above(list(1), list(0, 0, 1))},
		{above(list(0, 0, 6), list(0, 0, 4)), above(list(3), list(2))},
		{below(list(0, 0, 1), list(0, 1)), below(list(0, 1), list(1))},
		{above(run(6, top), run(4, top)), above(list(1, 0, 1, 0, 1), list(1, 0, 1))},
		{above(run(30, top), run(30, top)), above(list(1), list(1))},
	}
	for _, test := range tests {
		isJust(t, "Read "+text(test.in), Read(test.in), test.want)
	}
}

// P3.1: 0 has one canonical Rat, with the Den 1, however it is written; a Den that is 0, empty or nil says 0.
func TestReadOfZeros(t *testing.T) {
	for _, r := range zeros() {
		isJust(t, "Read "+text(r), Read(r), above(nil, list(1)))
	}
}

// P3.1
func TestReadOfManyNumbers(t *testing.T) {
	r := source(1)
	for range 20000 {
		a := number(r, 1+r.IntN(9))
		isValue(t, "Read "+text(a), Read(a), valueOf(a))
	}
}

// P3.1: each of the four things that make a Rat canonical is asked for.
func TestCheckOfNamedNumbers(t *testing.T) {
	for _, r := range []api.Rat{
		above(nil, list(1)), above(list(), list(1)), above(list(1), list(1)), below(list(1), list(1)), above(list(2), list(3)), below(list(3), list(2)),
		above(list(0, 1), list(1)), below(list(1), list(0, 1)), above(list(0, 0, 1), list(top)), above(run(9, top), append(run(9, 0), 1)),
	} {
		if !Check(r) {
			t.Errorf("Check %v: false", r)
		}
	}
	for _, r := range []api.Rat{
		{}, {Neg: true}, above(list(1), nil), above(list(1), list()), above(list(1), list(0)), below(list(1), list(0, 0)), above(nil, nil), above(list(0), list(0)),
		above(list(2), nil), above(list(2), list(0)),
		above(list(1, 0), list(1)), above(list(1), list(1, 0)), above(list(0), list(1)), above(list(0, 0), list(1)), above(list(2), list(3, 0, 0)),
		below(nil, list(1)), below(list(), list(1)), below(list(0), list(1)),
		above(nil, list(2)), above(nil, list(0, 1)), above(list(4), list(6)), below(list(3), list(3)), above(list(0, 2), list(0, 3)), above(run(6, top), run(4, top)),
	} {
		if Check(r) {
			t.Errorf("Check %v: true", r)
		}
	}
}

// P3.1: just the Rats that reading leaves as they are; of what is read the canonical one.
func TestCheckOfManyNumbers(t *testing.T) {
	r := source(2)
	for range 20000 {
		a := number(r, 1+r.IntN(6))
		canonical := ratOf(valueOf(a))
		if Check(a) != equal(a, canonical) {
			t.Errorf("Check %v: %v", a, Check(a))
		}
		if !Check(canonical) || !Check(Read(a)) {
			t.Errorf("Check of %v, read: false", a)
		}
	}
}

// P3.1: numbers are the same however they are written, and unlike ones are not.
func TestSame(t *testing.T) {
	rising := risingNumbers()
	for i, a := range rising {
		for j, b := range rising {
			for _, x := range writings(a) {
				for _, y := range writings(b) {
					if Same(x, y) != (i == j) {
						t.Errorf("Same %v %v: %v", x, y, i != j)
					}
				}
			}
		}
	}
}

// P3.1: the document's example; the least int, in both places.
func TestOfNamedInts(t *testing.T) {
	tests := []struct {
		n, d int
		want api.Rat
	}{
		{6, -4, below(list(3), list(2))}, {-6, 4, below(list(3), list(2))}, {-6, -4, above(list(3), list(2))}, {6, 4, above(list(3), list(2))},
		{0, 1, above(nil, list(1))}, {0, -5, above(nil, list(1))}, {0, math.MinInt, above(nil, list(1))}, {0, 0, above(nil, list(1))},
		{1, 0, above(nil, list(1))}, {-1, 0, above(nil, list(1))}, {math.MinInt, 0, above(nil, list(1))}, {math.MaxInt, 0, above(nil, list(1))},
		{7, 1, above(list(7), list(1))}, {-7, 1, below(list(7), list(1))}, {7, 7, above(list(1), list(1))}, {1, -1, below(list(1), list(1))},
		{1 << 40, 1 << 20, above(list(1<<20), list(1))}, {-3, 1 << 40, below(list(3), list(0, 1<<8))},
		{math.MinInt, 1, below(list(0, 1<<31), list(1))}, {math.MinInt, -1, above(list(0, 1<<31), list(1))},
		{1, math.MinInt, below(list(1), list(0, 1<<31))}, {-1, math.MinInt, above(list(1), list(0, 1<<31))},
		{math.MinInt, math.MinInt, above(list(1), list(1))}, {math.MinInt, 2, below(list(0, 1<<30), list(1))}, {6, math.MinInt, below(list(3), list(0, 1<<30))},
		{math.MaxInt, math.MinInt, below(list(top, 1<<31-1), list(0, 1<<31))}, {math.MinInt, math.MaxInt, below(list(0, 1<<31), list(top, 1<<31-1))},
		{math.MaxInt, 1, above(list(top, 1<<31-1), list(1))}, {math.MaxInt, math.MaxInt, above(list(1), list(1))}, {math.MaxInt, -math.MaxInt, below(list(1), list(1))},
	}
	for _, test := range tests {
		isJust(t, fmt.Sprint("Of ", test.n, test.d), Of(test.n, test.d), test.want)
	}
}

// P3.1
func TestOfManyInts(t *testing.T) {
	r := source(3)
	for range 5000 {
		n, d := int(r.Uint64())>>r.IntN(64), int(r.Uint64())>>r.IntN(64)
		want := new(big.Rat)
		if d != 0 {
			want.SetFrac(big.NewInt(int64(n)), big.NewInt(int64(d)))
		}
		isValue(t, fmt.Sprint("Of ", n, d), Of(n, d), want)
	}
}

// risingNumbers are canonical ones, each above the one ahead; 0 is among them.
func risingNumbers() []api.Rat {
	sizes := []api.Rat{
		above(list(1), run(5, top)), above(list(1), list(0, 1)), above(list(1), list(3)), above(list(1), list(2)), above(list(2), list(3)), above(list(top-1), list(top)),
		above(list(1), list(1)), above(list(0, 1), list(top)), above(list(3), list(2)), above(list(2), list(1)), above(list(0, 1), list(1)), above(list(1, 0, 1), list(0, 1)),
		above(list(1, 1), list(1)), above(list(0, 0, 1), list(1)), above(run(5, top), list(1)),
	}
	var rising []api.Rat
	for _, r := range slices.Backward(sizes) {
		rising = append(rising, below(r.Num, r.Den))
	}
	return slices.Concat(rising, []api.Rat{above(nil, list(1))}, sizes)
}

// P3.3
func TestCmpAndSignOfRisingNumbers(t *testing.T) {
	rising := risingNumbers()
	middle := len(rising) / 2
	for i, a := range rising {
		for _, x := range writings(a) {
			if got, want := Sign(x), big.NewInt(int64(i-middle)).Sign(); got != want {
				t.Errorf("Sign %v: got %d, want %d", x, got, want)
			}
			for j, b := range rising {
				for _, y := range writings(b) {
					if got, want := Cmp(x, y), big.NewInt(int64(i-j)).Sign(); got != want {
						t.Errorf("Cmp %v %v: got %d, want %d", x, y, got, want)
					}
				}
			}
		}
	}
}

// P3.3: numbers of many limbs, and ones that lie close to each other.
func TestCmpOfManyNumbers(t *testing.T) {
	r := source(4)
	for range 10000 {
		a, b := number(r, 1+r.IntN(9)), number(r, 1+r.IntN(9))
		x, y := valueOf(a), valueOf(b)
		near := ratOf(new(big.Rat).Add(x, valueOf(api.Rat{Neg: r.IntN(2) == 0, Num: list(1), Den: append(run(12, 0), 1)})))
		if Cmp(a, b) != x.Cmp(y) || Cmp(a, near) != x.Cmp(valueOf(near)) || Same(a, near) || Same(a, b) != (x.Cmp(y) == 0) || Sign(a) != x.Sign() {
			t.Errorf("Cmp %v %v: %d; Sign: %d", a, b, Cmp(a, b), Sign(a))
		}
	}
}

// P3.3: whole numbers, numbers below 0, numbers between -1 and 1.
func TestFloorOfNamedNumbers(t *testing.T) {
	tests := []struct{ n, d, want int }{
		{-1, 2, -1}, {1, 2, 0}, {7, 2, 3}, {-7, 2, -4}, {0, 1, 0}, {1, 1, 1}, {-1, 1, -1}, {5, 1, 5}, {-5, 1, -5}, {6, 3, 2}, {-6, 3, -2},
		{1, 1000, 0}, {-1, 1000, -1}, {999, 1000, 0}, {-999, 1000, -1}, {1001, 1000, 1}, {-1001, 1000, -2}, {-1999, 1000, -2}, {-2001, 1000, -3}, {9, 0, 0},
	}
	for _, test := range tests {
		for _, a := range []api.Rat{Of(test.n, test.d), small(test.n, test.d)} {
			isJust(t, "Floor "+text(a), Floor(a), ratOf(big.NewRat(int64(test.want), 1)))
		}
	}
	for _, r := range zeros() {
		isJust(t, "Floor "+text(r), Floor(r), above(nil, list(1)))
	}
	isJust(t, "Floor with a carry", Floor(below(list(1, 0, 2), list(0, 0, 1))), below(list(3), list(1)))
	isJust(t, "Floor with a new limb", Floor(below(run(9, top), list(0, 0, 1))), below(append(run(7, 0), 1), list(1)))
	isJust(t, "Floor close to 0", Floor(below(list(1), run(9, top))), below(list(1), list(1)))
	isJust(t, "Floor close to 1", Floor(above(run(9, top), append(run(9, 0), 1))), above(nil, list(1)))
}

// P3.3: not above the number, and 1 more is.
func TestFloorOfManyNumbers(t *testing.T) {
	r := source(5)
	for range 10000 {
		a := number(r, 1+r.IntN(9))
		value := valueOf(a)
		// Div rounds to the lesser side where the divisor is above 0.
		want := new(big.Int).Div(value.Num(), value.Denom())
		isValue(t, "Floor "+text(a), Floor(a), new(big.Rat).SetInt(want))
		if Cmp(Floor(a), a) > 0 || Cmp(Sum(Floor(a), Of(1, 1)), a) <= 0 {
			t.Errorf("Floor %v: %v", a, Floor(a))
		}
	}
}

func isRoot(t *testing.T, a, want api.Rat, wantOk bool) {
	t.Helper()
	got, ok := Sqrt(a)
	isJust(t, "Sqrt "+text(a), got, want)
	if ok != wantOk {
		t.Errorf("Sqrt %v: %v", a, ok)
	}
}

// P3.4: 0, squares, quotients of which one part alone is a square, numbers below 0.
func TestSqrtOfNamedNumbers(t *testing.T) {
	none := above(nil, list(1))
	for _, r := range zeros() {
		isRoot(t, r, none, true)
	}
	for _, test := range []struct{ n, d, rootN, rootD int }{
		{4, 9, 2, 3}, {1, 1, 1, 1}, {4, 1, 2, 1}, {1, 4, 1, 2}, {81, 16, 9, 4}, {8, 18, 2, 3}, {50, 2, 5, 1}, {3, 12, 1, 2}, {1 << 40, 9, 1 << 20, 3},
	} {
		want := ratOf(big.NewRat(int64(test.rootN), int64(test.rootD)))
		isRoot(t, Of(test.n, test.d), want, true)
		isRoot(t, small(test.n, test.d), want, true)
		isRoot(t, Of(-test.n, test.d), none, false)
		isRoot(t, small(-test.n, test.d), none, false)
	}
	for _, test := range [][2]int{{2, 1}, {-1, 1}, {1, 2}, {4, 3}, {3, 4}, {2, 3}, {8, 9}, {9, 8}, {12, 9}, {9, 12}, {-4, 9}, {-2, 1}, {-1, 4}} {
		isRoot(t, Of(test[0], test[1]), none, false)
		isRoot(t, small(test[0], test[1]), none, false)
	}
	isRoot(t, above(list(0, 0, 1), list(1, 2, 1)), above(list(0, 1), list(1, 1)), true)
	isRoot(t, above(list(1, 0, 1), list(1, 2, 1)), none, false)
	isRoot(t, above(list(1, 2, 1), list(1, 0, 1)), none, false)
}

// P3.4: of a square the root, not below 0; of what lies beside it, of its opposite, and of twice it, none.
func TestSqrtOfManyNumbers(t *testing.T) {
	r := source(6)
	none := above(nil, list(1))
	for range 3000 {
		value := valueOf(number(r, 1+r.IntN(9)))
		if value.Sign() == 0 {
			continue
		}
		square := new(big.Rat).Mul(value, value)
		for _, a := range writings(ratOf(square)) {
			isRoot(t, a, ratOf(new(big.Rat).Abs(value)), true)
			a.Neg = true
			isRoot(t, a, none, false)
		}
		isRoot(t, ratOf(new(big.Rat).Mul(square, big.NewRat(2, 1))), none, false)
		isRoot(t, ratOf(new(big.Rat).Mul(square, big.NewRat(1, 2))), none, false)
	}
}
