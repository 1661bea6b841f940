package root

import (
	"fmt"
	"math/big"
	"testing"

	"penumbra/api"
	"penumbra/nat"
)

// P2.2: the document's examples, 0 and 1, and what lies about the ends of limbs and words.
func TestSqrtOfNamedNaturals(t *testing.T) {
	tests := []struct {
		a, want []uint32
		exact   bool
	}{
		{list(0, 1), list(65536), true},
		{list(8), list(2), false},
		{nil, nil, true},
		{list(), nil, true},
		{list(0), nil, true},
		{list(0, 0, 0, 0), nil, true},
		{list(1), list(1), true},
		{list(1, 0, 0, 0), list(1), true},
		{list(2), list(1), false},
		{list(3), list(1), false},
		{list(4), list(2), true},
		{list(9, 0, 0), list(3), true},
		{list(8, 0, 0), list(2), false},
		{list(top), list(65535), false},
		{list(1, 1), list(65536), false},
		{list(0, top-1), list(top - 1), false},
		{list(1, top-1), list(top), true},
		{list(2, top-1), list(top), false},
		{list(top, top), list(top), false},
		{list(0, 0, 1), list(0, 1), true},
		{list(1, 0, 1), list(0, 1), false},
		{list(0, 2, 1), list(0, 1), false},
		{list(1, 2, 1), list(1, 1), true},
		{list(0, 0, 0, 1), list(0, 65536), true},
		{run(3, top), list(top, 65535), false},
		{run(4, top), run(2, top), false},
		{run(40, top), run(20, top), false},
		{append(run(39, 0), 1), append(run(19, 0), 65536), true},
		{append(run(40, 0), 1), append(run(20, 0), 1), true},
	}
	for _, test := range tests {
		got, exact := Sqrt(test.a)
		what := fmt.Sprint("root of ", test.a)
		isSame(t, what, got, test.want)
		if exact != test.exact {
			t.Errorf("%s: exact is %v", what, exact)
		}
	}
}

// P2.2: all naturals of 16 bits.
func TestSqrtOfSmallNaturals(t *testing.T) {
	want := uint32(0)
	for a := range uint32(1 << 16) {
		if (want+1)*(want+1) == a {
			want++
		}
		got, exact := Sqrt(list(a))
		isSame(t, fmt.Sprint("root of ", a), got, nat.Of(uint64(want)))
		if exact != (want*want == a) {
			t.Errorf("root of %d: exact is %v", a, exact)
		}
	}
}

func sqrtIs(t *testing.T, a, want *big.Int, wantExact bool) {
	t.Helper()
	got, exact := Sqrt(limbsOf(a))
	what := fmt.Sprint("root of ", limbsOf(a))
	isSame(t, what, got, limbsOf(want))
	if exact != wantExact {
		t.Errorf("%s: exact is %v", what, exact)
	}
}

// aroundSquare tries the square of a root above 1, its two neighbours, and the last natural ahead of the next square.
func aroundSquare(t *testing.T, root *big.Int) {
	t.Helper()
	square := times(root, root)
	sqrtIs(t, plus(square, -1), plus(root, -1), false)
	sqrtIs(t, square, root, true)
	sqrtIs(t, plus(square, 1), root, false)
	sqrtIs(t, new(big.Int).Add(square, times(root, big.NewInt(2))), root, false)
}

// P2.2 and P2.3: of a square the root is told, and true; what lies beside it is none.
func TestSqrtAroundSquares(t *testing.T) {
	r := source(5)
	for range 4000 {
		aroundSquare(t, plus(natural(r, 1+r.IntN(16)), 2))
	}
	for bits := range uint(300) {
		power := new(big.Int).Lsh(big.NewInt(2), bits)
		aroundSquare(t, power)
		aroundSquare(t, plus(power, 1))
		if bits > 0 {
			aroundSquare(t, plus(power, -1))
		}
	}
}

// P2.2: squares that have more bits than a natural may be shifted by.
func TestSqrtOfGreatSquares(t *testing.T) {
	aroundSquare(t, bigOf(run(2*api.MaxShift/32+3, top)))
	aroundSquare(t, new(big.Int).Lsh(big.NewInt(1), 2*api.MaxShift+5))
	aroundSquare(t, plus(bigOf(append(run(3000, 0), 7)), 3))
}

// P2.2: naturals of all lengths.
func TestSqrtOfManyNaturals(t *testing.T) {
	r := source(6)
	for range 20000 {
		a := natural(r, 1+r.IntN(20))
		want := new(big.Int).Sqrt(a)
		sqrtIs(t, a, want, times(want, want).Cmp(a) == 0)
	}
}
