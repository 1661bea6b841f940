package nat

import (
	"fmt"
	"math"
	"math/big"
	"testing"

	"penumbra/api"
)

// P1.1
func TestNorm(t *testing.T) {
	for _, c := range []struct{ in, want []uint32 }{
		{nil, nil}, {list(), nil}, {list(0), nil}, {run(50, 0), nil},
		{list(7), list(7)}, {list(7, 0), list(7)}, {list(7, 0, 0, 0), list(7)},
		{list(0, 0, 1), list(0, 0, 1)}, {list(0, 5, 0), list(0, 5)},
		{join(run(40, top), run(40, 0)), run(40, top)},
	} {
		isSame(t, fmt.Sprint("Norm ", c.in), Norm(c.in), c.want)
	}
}

// P1.1
func TestOf(t *testing.T) {
	for _, c := range []struct {
		in   uint64
		want []uint32
	}{
		{0, nil}, {1, list(1)}, {top, list(top)}, {top + 1, list(0, 1)},
		{5<<32 + 9, list(9, 5)}, {math.MaxUint64, list(top, top)},
	} {
		isSame(t, fmt.Sprint("Of ", c.in), Of(c.in), c.want)
	}
}

// P1.1
func TestBits(t *testing.T) {
	for _, c := range []struct {
		in   []uint32
		want int
	}{
		{nil, 0}, {list(), 0}, {list(0, 0), 0}, {list(1), 1}, {list(2), 2}, {list(3), 2}, {list(4), 3},
		{list(1 << 31), 32}, {list(top), 32}, {list(top, 0, 0), 32}, {list(0, 1), 33}, {list(0, 1, 0), 33},
		{run(10, top), 320}, {join(run(10, 0), list(1)), 321},
	} {
		if got := Bits(c.in); got != c.want {
			t.Errorf("Bits %v: got %d, want %d", c.in, got, c.want)
		}
	}
}

// P1.1
func TestCmp(t *testing.T) {
	rising := [][]uint32{nil, list(1), list(2), list(top), list(0, 1), list(1, 1), list(top, 1), list(0, 2), list(5, 0, 1), list(0, 1, 1), run(20, top)}
	for i, a := range rising {
		for j, b := range rising {
			want := order(i < j)
			if i == j {
				want = 0
			}
			for _, other := range [][]uint32{b, join(b, list(0)), join(b, run(30, 0))} {
				if got := Cmp(a, other); got != want {
					t.Errorf("Cmp %v %v: got %d, want %d", a, other, got, want)
				}
				if got := Cmp(other, a); got != -want {
					t.Errorf("Cmp %v %v: got %d, want %d", other, a, got, -want)
				}
			}
		}
	}
}

// P1.2
func TestAdd(t *testing.T) {
	for _, c := range []struct{ a, b, want []uint32 }{
		{nil, nil, nil}, {list(0), list(0, 0), nil}, {nil, list(5, 0), list(5)}, {list(2), list(3), list(5)},
		{list(top), list(1, 0), list(0, 1)}, {list(top), list(top), list(top-1, 1)},
		{run(30, top), list(1), join(run(30, 0), list(1))},
		{join(run(30, top), list(4)), list(1), join(run(30, 0), list(5))},
		{run(30, top), run(30, top), join(list(top-1), run(29, top), list(1))},
		{list(1, 2, 3), list(0, 0, 0, 4), list(1, 2, 3, 4)},
		{list(0, top), list(0, 1, 0, 0), list(0, 0, 1)},
	} {
		isSame(t, fmt.Sprint("Add ", c.a, c.b), Add(c.a, c.b), c.want)
		isSame(t, fmt.Sprint("Add ", c.b, c.a), Add(c.b, c.a), c.want)
	}
}

// P1.2
func TestSub(t *testing.T) {
	for _, c := range []struct{ a, b, want []uint32 }{
		{nil, nil, nil}, {list(0), nil, nil}, {nil, list(0, 0), nil}, {list(5, 0), list(0), list(5)},
		{list(5), list(3), list(2)}, {list(5, 0), list(5), nil}, {list(5), list(5, 0, 0), nil},
		{list(0, 1), list(1), list(top)}, {join(run(30, 0), list(1)), list(1), run(30, top)},
		{join(run(30, 0), list(7)), list(1), join(run(30, top), list(6))},
		{list(1, 2, 3, 4), list(0, 0, 0, 4), list(1, 2, 3)}, {list(0, 0, 1), list(top, top), list(1)},
		{run(30, top), run(30, top), nil}, {run(30, top), join(run(29, top), list(top-1), list(0)), join(run(29, 0), list(1))},
	} {
		got, ok := Sub(c.a, c.b)
		if !ok {
			t.Errorf("Sub %v %v: false", c.a, c.b)
		}
		isSame(t, fmt.Sprint("Sub ", c.a, c.b), got, c.want)
	}
}

// P1.2
func TestSubBelow(t *testing.T) {
	for _, c := range []struct{ a, b []uint32 }{
		{nil, list(1)}, {list(0, 0), list(1)}, {list(1), list(2)}, {list(top, 0, 0), list(0, 1)},
		{run(30, top), join(run(30, 0), list(1))}, {run(30, 5), join(run(29, 5), list(6))},
		{join(list(4), run(29, 5)), run(30, 5)},
	} {
		if got, ok := Sub(c.a, c.b); ok || len(got) != 0 {
			t.Errorf("Sub %v %v: got %v, %v", c.a, c.b, got, ok)
		}
	}
}

// P1.2
func TestMul(t *testing.T) {
	for _, c := range []struct{ a, b, want []uint32 }{
		{nil, nil, nil}, {nil, list(7, 8), nil}, {list(0, 0), list(7, 8), nil}, {list(1, 0), list(7, 8, 0), list(7, 8)},
		{list(6), list(7), list(42)}, {list(top), list(top), list(1, top-1)}, {list(0, 2), list(0, 0, 3), list(0, 0, 0, 6)},
		{list(1 << 31), list(2), list(0, 1)}, {run(9, top), run(9, top), join(list(1), run(8, 0), list(top-1), run(8, top))},
		{run(9, top), list(top), join(list(1), run(8, top), list(top-1))},
	} {
		isSame(t, fmt.Sprint("Mul ", c.a, c.b), Mul(c.a, c.b), c.want)
		isSame(t, fmt.Sprint("Mul ", c.b, c.a), Mul(c.b, c.a), c.want)
	}
}

// P1.2
func TestShl(t *testing.T) {
	for _, c := range []struct {
		a    []uint32
		n    int
		want []uint32
	}{
		{nil, 0, nil}, {nil, 40, nil}, {list(0, 0), api.MaxShift, nil}, {list(3), 0, list(3)}, {list(3, 0, 0), 0, list(3)},
		{list(3), 1, list(6)}, {list(3), 31, list(1<<31, 1)}, {list(3), 32, list(0, 3)}, {list(3), 33, list(0, 6)},
		{list(top, top), 4, list(top-15, top, 15)}, {list(1), 63, list(0, 1<<31)}, {list(5, 7), 64, list(0, 0, 5, 7)},
		{list(1), api.MaxShift, join(run(2048, 0), list(1))}, {list(1), api.MaxShift - 1, join(run(2047, 0), list(1<<31))},
	} {
		got, ok := Shl(c.a, c.n)
		if !ok {
			t.Errorf("Shl %v %d: false", c.a, c.n)
		}
		isSame(t, fmt.Sprint("Shl ", c.a, c.n), got, c.want)
	}
}

// P1.2
func TestShlWrong(t *testing.T) {
	for _, n := range []int{-1, -32, math.MinInt, api.MaxShift + 1, api.MaxShift + 32, math.MaxInt} {
		for _, a := range [][]uint32{nil, list(0), list(3), run(40, top)} {
			if got, ok := Shl(a, n); ok || len(got) != 0 {
				t.Errorf("Shl %v %d: got %v, %v", a, n, got, ok)
			}
		}
	}
}

// P1.1, P1.2: the same as another reckoner says, at naturals of many lengths.
func TestAgainstBig(t *testing.T) {
	s := &source{state: 1}
	for range 20000 {
		a, b := s.natural(12), s.natural(12)
		x, y := bigOf(a), bigOf(b)
		isSame(t, fmt.Sprint("Norm ", a), Norm(a), limbsOf(x))
		isSame(t, fmt.Sprint("Add ", a, b), Add(a, b), limbsOf(new(big.Int).Add(x, y)))
		isSame(t, fmt.Sprint("Mul ", a, b), Mul(a, b), limbsOf(new(big.Int).Mul(x, y)))
		if Bits(a) != x.BitLen() || Cmp(a, b) != x.Cmp(y) {
			t.Errorf("Bits %v: %d; Cmp %v: %d", a, Bits(a), b, Cmp(a, b))
		}
		rest, ok := Sub(a, b)
		if ok != (x.Cmp(y) >= 0) {
			t.Errorf("Sub %v %v: %v", a, b, ok)
		}
		if ok {
			isSame(t, fmt.Sprint("Sub ", a, b), rest, limbsOf(new(big.Int).Sub(x, y)))
		}
		n := s.below(200)
		shifted, ok := Shl(a, n)
		if !ok {
			t.Errorf("Shl %v %d: false", a, n)
		}
		isSame(t, fmt.Sprint("Shl ", a, n), shifted, limbsOf(new(big.Int).Lsh(x, uint(n))))
	}
}

// P1.4
func TestLaws(t *testing.T) {
	s := &source{state: 2}
	for range 5000 {
		a, b, c := s.natural(9), s.natural(9), s.natural(9)
		isSame(t, "a + b, b + a", Add(a, b), Add(b, a))
		isSame(t, "(a + b) + c, a + (b + c)", Add(Add(a, b), c), Add(a, Add(b, c)))
		isSame(t, "a b, b a", Mul(a, b), Mul(b, a))
		isSame(t, "(a b) c, a (b c)", Mul(Mul(a, b), c), Mul(a, Mul(b, c)))
		isSame(t, "a (b + c), a b + a c", Mul(a, Add(b, c)), Add(Mul(a, b), Mul(a, c)))
		back, ok := Sub(Add(a, b), b)
		if !ok {
			t.Errorf("%v + %v - %v: false", a, b, b)
		}
		isSame(t, "a + b - b, a", back, Norm(a))
	}
}
