package nat

import (
	"fmt"
	"math/big"
	"testing"
)

func isDivided(t *testing.T, a, b, quotient, rest []uint32) {
	t.Helper()
	q, r, ok := DivMod(a, b)
	if !ok {
		t.Errorf("DivMod %v %v: false", a, b)
	}
	isSame(t, fmt.Sprint("quotient of ", a, b), q, quotient)
	isSame(t, fmt.Sprint("rest of ", a, b), r, rest)
}

// P1.3
func TestDivMod(t *testing.T) {
	for _, c := range []struct{ a, b, q, r []uint32 }{
		{nil, list(5), nil, nil}, {list(0, 0), list(5, 0), nil, nil},
		{list(17), list(5), list(3), list(2)}, {list(15, 0), list(5, 0), list(3), nil},
		{list(4), list(5), nil, list(4)}, {list(4, 0), list(0, 5), nil, list(4)}, {list(7, 3, 0), list(0, 0, 1), nil, list(7, 3)},
		{list(9, 8), list(1), list(9, 8), nil}, {list(0, 1), list(top), list(1), list(1)}, {run(20, top), list(top), run(20, 1), nil},
		{list(7, 1<<31), list(2), list(3, 1<<30), list(1)}, {list(7, 0, 1), list(0, 2), list(1 << 31), list(7)},
		{list(3, 9), list(3, 9), list(1), nil}, {list(3, 9, 0), list(3, 9), list(1), nil}, {list(3, 9), list(3, 9, 0, 0), list(1), nil},
		{list(2, 9), list(3, 9), nil, list(2, 9)}, {run(20, top), run(10, top), join(list(1), run(9, 0), list(1)), nil},
		{list(0, 0, 1), list(top, top), list(1), list(1)}, {join(run(6, 0), list(1)), list(0, 0, 1), join(run(4, 0), list(1)), nil},
		{join(run(30, 0), list(1)), list(1, 0, 0), join(run(30, 0), list(1)), nil},
	} {
		isDivided(t, c.a, c.b, c.q, c.r)
	}
}

// P1.3: the last two limbs by the divisor's last one are a guess that is too great.
func TestDivModGuessTooGreat(t *testing.T) {
	for _, c := range []struct{ a, b, q, r []uint32 }{
		// by 1
		{list(0x520c36f5, 0, top, 0xe5343c50), list(0x58219611, 0x45606fa6), list(0xb47c805c, 0x4dc34751, 3), list(0x36b5c8d9, 0x2fc833fe)},
		// by 2
		{list(0x7ea8789a, 0xb5e35100, 0x68b5bb1c, 0x7bd9b105), list(top-1, 1<<31), list(0xe204b22b, 0xf7b36208), list(0x42b1dcf0, 0x434562e7)},
		// 2^32, which is no limb, by 1
		{list(2, 0xac46770b, 0x371b422a, top), list(0x734f543c, top), list(0xc3cbedee, top), list(0xdbb0243a, 0x8b3070f7)},
		// 2^32, by 2
		{list(0x6bfa70a2, 0, 1<<31+1), list(0xa66f2d8c, 1<<31+1), list(top - 1), list(0xb8d8cbba, 0x5990d277)},
		// 2^32 + 1, by 2
		{list(0x06450560, 0xa8bd85c8, 0xde33a08b, 1<<31), list(0xad64cac8, 0xde3dde2e, 1<<31), list(top), list(0xb3a9d028, 0xd996992e, 0x7ff5c25d)},
		// by 1, and three limbs by two do not tell
		{list(0, top, top), list(1, 1, 1), list(top - 1), list(2, 0, 1)},
		{list(0, 0, 1<<31, 1<<31-1), list(1, 0, 1<<31), list(top - 1), list(2, top, 1<<31-1)},
		{list(3, 0, 1<<31), list(1, 0, 1<<29), list(3), list(0, 0, 1<<29)},
		// by 2, and three limbs by two tell of 1 alone
		{list(top, 1, 0, 1<<31-1), list(top-1, 1<<31+1, 1<<31), list(top - 3), list(top-8, 11, 1<<31)},
		// 2^32, by 2, and three limbs by two tell of 1 alone
		{list(0x55ec798c, 1<<31, 0, top-1), list(0x9ab929c1, top, top-1), list(top - 1), list(0x8b5ecd0e, 0xe546d63e, top-1)},
	} {
		isDivided(t, c.a, c.b, c.q, c.r)
	}
}

// P1.3
func TestDivModByZero(t *testing.T) {
	for _, a := range [][]uint32{nil, list(0), list(5), list(0, 0, 7, 0), run(40, top)} {
		for _, b := range [][]uint32{nil, list(), list(0), list(0, 0), run(60, 0)} {
			if q, r, ok := DivMod(a, b); ok || len(q) != 0 || len(r) != 0 {
				t.Errorf("DivMod %v %v: got %v, %v, %v", a, b, q, r, ok)
			}
		}
	}
}

// P1.3, P1.4: the same as another reckoner says; quotient, divisor and rest give back what was divided.
func TestDivModAgainstBig(t *testing.T) {
	s := &source{state: 3}
	for range 60000 {
		a, b := s.natural(12), s.natural(7)
		if Bits(b) == 0 {
			continue
		}
		quotient, rest := new(big.Int).QuoRem(bigOf(a), bigOf(b), new(big.Int))
		isDivided(t, a, b, limbsOf(quotient), limbsOf(rest))
		q, r, _ := DivMod(a, b)
		isSame(t, fmt.Sprint("q b + r of ", a, b), Add(Mul(q, b), r), Norm(a))
		if Cmp(r, b) >= 0 {
			t.Errorf("rest of %v %v is not below the divisor: %v", a, b, r)
		}
	}
}

// P1.4: a product, divided by one factor, is the other one; with more, up to one less than the factor, that is the rest.
func TestDivModTakesBack(t *testing.T) {
	s := &source{state: 4}
	for range 20000 {
		q, b := s.natural(8), s.natural(8)
		most, ok := Sub(b, list(1))
		if !ok {
			continue
		}
		isDivided(t, Mul(q, b), b, Norm(q), nil)
		isDivided(t, Add(Mul(q, b), most), b, Norm(q), most)
	}
}
