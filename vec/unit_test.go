package vec

import (
	"math/big"
	"math/rand/v2"
	"testing"

	"penumbra/api"
)

// isUnit holds what Unit answers against the wanted direction and length, which are canonical.
func isUnit(t *testing.T, v, want api.Vec, length api.Rat) {
	t.Helper()
	unit, got, ok := Unit(v)
	isVec(t, unit, want, v)
	isNumber(t, got, length, v)
	if !ok {
		t.Errorf("Unit %v: false", v)
	}
}

// isNoUnit holds it against 0 0 0, 0 and false.
func isNoUnit(t *testing.T, v api.Vec) {
	t.Helper()
	unit, length, ok := Unit(v)
	isVec(t, unit, origin(), v)
	isNumber(t, length, none(), v)
	if ok {
		t.Errorf("Unit %v: true", v)
	}
}

// P5.3: the document's example; signs stay, the length is above 0; whole numbers and ones with a Den.
func TestUnitOfNamedVecs(t *testing.T) {
	isUnit(t, Of(3, 0, -4), words("3/5", "0", "-4/5"), word("5"))
	isUnit(t, Of(-3, 0, 4), words("-3/5", "0", "4/5"), word("5"))
	isUnit(t, Of(0, -3, 4), words("0", "-3/5", "4/5"), word("5"))
	isUnit(t, Of(5, -12, 0), words("5/13", "-12/13", "0"), word("13"))
	isUnit(t, Of(1, 2, -2), words("1/3", "2/3", "-2/3"), word("3"))
	isUnit(t, Of(-6, 2, 3), words("-6/7", "2/7", "3/7"), word("7"))
	isUnit(t, words("3/7", "0", "-4/7"), words("3/5", "0", "-4/5"), word("5/7"))
	isUnit(t, words("1/2", "2/3", "0"), words("3/5", "4/5", "0"), word("5/6"))
	isUnit(t, words("1/2", "1/3", "1/5"), words("15/19", "10/19", "6/19"), word("19/30"))
	isUnit(t, words("2/3", "-2/3", "1/3"), words("2/3", "-2/3", "1/3"), word("1"))
	isUnit(t, words("10/9", "20/9", "-20/9"), words("1/3", "2/3", "-2/3"), word("10/3"))
	isUnit(t, api.Vec{X: above(list(18, 0), list(6)), Y: below(list(1), nil), Z: below(list(0, 8), list(0, 2, 0))}, words("3/5", "0", "-4/5"), word("5"))
}

// P5.3: along an axis each number but 0 has itself, without its sign, as the length.
func TestUnitAlongAxes(t *testing.T) {
	for _, r := range kinds() {
		for i, axis := range axes() {
			v := Scale(r, axis)
			switch length := (api.Rat{Num: r.Num, Den: r.Den}); {
			case len(r.Num) == 0:
				isNoUnit(t, v)
			case r.Neg:
				isUnit(t, v, Scale(word("-1"), axis), length)
			default:
				isUnit(t, v, axes()[i], length)
			}
		}
	}
}

// P5.3: of 0 0 0, however it is written.
func TestUnitOfZero(t *testing.T) {
	all := zeros()
	isNoUnit(t, Of(0, 0, 0))
	for i, zero := range all {
		isNoUnit(t, api.Vec{X: zero, Y: zero, Z: zero})
		isNoUnit(t, api.Vec{X: zero, Y: all[(i+3)%len(all)], Z: all[(i+8)%len(all)]})
	}
}

// P5.3: of ones whose length is no number, by the Num, by the Den, or by both of its square; also just beside a square.
func TestUnitWithoutLength(t *testing.T) {
	for _, v := range []api.Vec{
		Of(1, 1, 0), Of(1, 0, 1), Of(0, -1, 1), Of(1, 1, 1), Of(2, 2, 2), Of(3, 0, -5), Of(1, 2, 3),
		words("1/2", "1/2", "0"), words("1/3", "1/3", "1/3"), words("1/2", "1/2", "1/2"), words("2/3", "2/3", "-2/3"), words("1/2", "1/3", "1/7"),
	} {
		isNoUnit(t, v)
	}
	for n := 1; n < 40; n++ {
		long := api.Vec{X: above(run(n, top), list(1)), Y: none(), Z: none()}
		isUnit(t, long, Of(1, 0, 0), long.X)
		isNoUnit(t, Sum(long, Of(0, 1, 0)))
		isNoUnit(t, Sum(long, Of(0, 0, -1)))
		isNoUnit(t, Sum(long, words("0", "0", "1/3")))
	}
}

// whole makes a whole number, above 0 or below, of at most most limbs.
func whole(r *rand.Rand, most int) *big.Rat {
	n := new(big.Rat).SetInt(bigOf(natural(r, most)))
	if r.IntN(2) == 0 {
		n.Neg(n)
	}
	return n
}

// withLength makes three numbers and their length, by Lebesgue's rule of four squares; all of them may be 0.
func withLength(r *rand.Rand, most int) (values, *big.Rat) {
	m, n, p, q := whole(r, most), whole(r, most), whole(r, most), whole(r, most)
	first, second := plus(times(m, m), times(n, n)), plus(times(p, p), times(q, q))
	two := big.NewRat(2, 1)
	all := values{minus(first, second), times(two, plus(times(m, q), times(n, p))), times(two, minus(times(n, q), times(m, p)))}
	length := plus(first, second)
	if k := valueOf(number(r, most)); k.Sign() != 0 {
		all, length = scaled(k, all), times(k.Abs(k), length)
	}
	turn := r.IntN(3)
	return values{all[turn], all[(turn+1)%3], all[(turn+2)%3]}, length
}

// loose writes each number by a common divisor, and with limbs 0.
func loose(v api.Vec) api.Vec {
	return api.Vec{X: looseNumber(v.X), Y: looseNumber(v.Y), Z: looseNumber(v.Z)}
}

func looseNumber(r api.Rat) api.Rat {
	written := writings(r)[4]
	return api.Rat{Neg: r.Neg, Num: append(written.Num, 0), Den: append(written.Den, 0, 0)}
}

// P5.3 and P5.4: ones with a length, of many limbs and with a Den; what Unit tells has the Dot 1 with itself.
func TestUnitOfManyVecs(t *testing.T) {
	r := source(10)
	for range 1500 {
		numbers, length := withLength(r, 1+r.IntN(5))
		v := vecOf(numbers)
		if length.Sign() == 0 {
			isNoUnit(t, v)
			continue
		}
		want := vecOf(scaled(new(big.Rat).Inv(length), numbers))
		isUnit(t, v, want, ratOf(length))
		isUnit(t, loose(v), want, ratOf(length))
		unit, told, _ := Unit(v)
		isNumber(t, Dot(unit, unit), word("1"), v)
		isVec(t, Scale(told, unit), v, v)
	}
}

func isSquare(n *big.Int) bool {
	root := new(big.Int).Sqrt(n)
	return root.Mul(root, root).Cmp(n) == 0
}

// P5.3: any ones; whether there is a length is told by another reckoner.
func TestUnitOfAnyVecs(t *testing.T) {
	r := source(11)
	found := [2]int{}
	for range 4000 {
		v := point(r, 1+r.IntN(2))
		if r.IntN(2) == 0 {
			v = Of(r.IntN(9)-4, r.IntN(9)-4, r.IntN(9)-4)
		}
		square := dotOf(valuesOf(v), valuesOf(v))
		if square.Sign() == 0 || !isSquare(square.Num()) || !isSquare(square.Denom()) {
			found[0]++
			isNoUnit(t, v)
			continue
		}
		found[1]++
		length := new(big.Rat).SetFrac(new(big.Int).Sqrt(square.Num()), new(big.Int).Sqrt(square.Denom()))
		isUnit(t, v, vecOf(scaled(new(big.Rat).Inv(length), valuesOf(v))), ratOf(length))
	}
	if found[0] < 500 || found[1] < 500 {
		t.Errorf("without and with a length: %v", found)
	}
}
