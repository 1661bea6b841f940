package vec

import (
	"math"
	"math/big"
	"math/rand/v2"
	"slices"
	"testing"

	"penumbra/api"
)

// P5.1: each number is read, as 0 if its Den is 0.
func TestReadOfNamedVecs(t *testing.T) {
	isVec(t, Read(api.Vec{}), origin(), "zero value")
	isVec(t, Read(api.Vec{X: above(list(6, 0), list(4)), Y: below(list(0, 6), list(0, 9, 0)), Z: below(list(0), list(5))}), words("3/2", "-2/3", "0"))
	isVec(t, Read(api.Vec{X: below(list(1), nil), Y: above(list(8), list(2)), Z: above(list(1), list(0, 0))}), words("0", "4", "0"))
	isVec(t, Read(api.Vec{X: above(run(6, top), run(3, top)), Y: none(), Z: below(run(3, top), run(6, top))}),
		api.Vec{X: above(list(1, 0, 0, 1), list(1)), Y: none(), Z: below(list(1), list(1, 0, 0, 1))})
}

// P5.1: whatever way a Vec is written in, it is read the same.
func TestReadOfWritings(t *testing.T) {
	for _, v := range mixed() {
		for _, w := range vecWritings(v) {
			isVec(t, Read(w), v, w)
		}
	}
}

// P5.1
func TestReadOfManyVecs(t *testing.T) {
	r := source(1)
	for range 4000 {
		v := point(r, 1+r.IntN(8))
		isVec(t, Read(v), vecOf(valuesOf(v)), v)
	}
}

func isSame(t *testing.T, a, b api.Vec, want bool) {
	t.Helper()
	if Same(a, b) != want || Same(b, a) != want {
		t.Errorf("Same %v %v: got %v and %v, want %v", a, b, Same(a, b), Same(b, a), want)
	}
}

// P5.1: the same numbers are the same, however they are written; a Vec is the same as itself.
func TestSameOfWritings(t *testing.T) {
	for _, v := range mixed() {
		all := vecWritings(v)
		for i, w := range all {
			isSame(t, w, w, true)
			isSame(t, v, w, true)
			isSame(t, all[(i+5)%len(all)], w, true)
		}
	}
	isSame(t, api.Vec{}, Of(0, 0, 0), true)
}

// P5.1: one number that is another one is enough, whichever it is, by its sign, its Num or its Den.
func TestSameTellsEachNumber(t *testing.T) {
	base := api.Vec{X: above(list(1, 2, 3), list(7)), Y: word("-2/3"), Z: word("5")}
	for _, other := range append(kinds(), word("2/3"), word("-5"), word("5/2"), word("-2/5"), word("-1/3"), word("6"), below(list(1, 2, 3), list(7)), above(list(1, 2, 4), list(7))) {
		isSame(t, base, api.Vec{X: other, Y: base.Y, Z: base.Z}, false)
		isSame(t, base, api.Vec{X: base.X, Y: other, Z: base.Z}, equal(other, base.Y))
		isSame(t, base, api.Vec{X: base.X, Y: base.Y, Z: other}, equal(other, base.Z))
	}
	isSame(t, Of(1, 2, 3), Of(2, 1, 3), false)
	isSame(t, Of(1, 2, 3), Of(1, 3, 2), false)
	isSame(t, Of(1, 2, 3), Of(3, 2, 1), false)
	isSame(t, Of(1, 0, 0), Of(-1, 0, 0), false)
}

// P5.1
func TestSameOfManyVecs(t *testing.T) {
	r := source(2)
	for range 3000 {
		a, b := point(r, 1), point(r, 1)
		x, y := valuesOf(a), valuesOf(b)
		want := x[0].Cmp(y[0]) == 0 && x[1].Cmp(y[1]) == 0 && x[2].Cmp(y[2]) == 0
		isSame(t, a, b, want)
	}
}

// P5.1: whole numbers in each place, also the least and the greatest one.
func TestOf(t *testing.T) {
	isVec(t, Of(0, 0, 0), origin())
	isVec(t, Of(1, -2, 3), api.Vec{X: above(list(1), list(1)), Y: below(list(2), list(1)), Z: above(list(3), list(1))})
	edges := []int{0, 1, -1, 7, math.MaxInt32, math.MinInt32, math.MaxInt, math.MaxInt - 1, math.MinInt, math.MinInt + 1}
	for _, x := range edges {
		for _, y := range edges {
			for _, z := range edges {
				want := values{new(big.Rat).SetInt64(int64(x)), new(big.Rat).SetInt64(int64(y)), new(big.Rat).SetInt64(int64(z))}
				isVec(t, Of(x, y, z), vecOf(want), x, y, z)
			}
		}
	}
}

func sumOf(l []api.Vec) values {
	sum := values{new(big.Rat), new(big.Rat), new(big.Rat)}
	for _, v := range l {
		sum = each(sum, valuesOf(v), plus)
	}
	return sum
}

// P5.1: of none, of one, of two and of more.
func TestSumOfNamedVecs(t *testing.T) {
	isVec(t, Sum(), origin(), "none")
	isVec(t, Sum([]api.Vec(nil)...), origin(), "no list")
	isVec(t, Sum([]api.Vec{}...), origin(), "an empty list")
	isVec(t, Sum(api.Vec{}), origin(), "the zero value")
	isVec(t, Sum(words("1/2", "-3", "0")), words("1/2", "-3", "0"), "one")
	isVec(t, Sum(words("1/2", "-3", "7"), words("1/3", "3", "-9")), words("5/6", "0", "-2"), "two")
	isVec(t, Sum(Of(1, 10, 100), Of(2, 20, 200), Of(3, 30, 300)), Of(6, 60, 600), "three")
	isVec(t, Sum(Of(1, 0, 0), Of(0, 1, 0), Of(0, 0, 1), Of(-1, 0, 0), Of(0, -2, 0), Of(0, 0, -3)), Of(0, -1, -2), "many")
	isVec(t, Sum(api.Vec{X: above(list(top), list(1)), Y: none(), Z: none()}, Of(1, 1, 1)), api.Vec{X: above(list(0, 1), list(1)), Y: word("1"), Z: word("1")}, "a limb more")
}

// P5.1: of all kinds of numbers, at each place by itself and beside others.
func TestSumAndSubOfKinds(t *testing.T) {
	for _, a := range mixed() {
		isVec(t, Sum(a), a, a)
		isVec(t, Sum(a, a), vecOf(each(valuesOf(a), valuesOf(a), plus)), a)
		isVec(t, Sub(a, a), origin(), a)
		isVec(t, Sub(a, Of(0, 0, 0)), a, a)
		for _, b := range mixed() {
			isVec(t, Sum(a, b), vecOf(each(valuesOf(a), valuesOf(b), plus)), a, b)
			isVec(t, Sub(a, b), vecOf(each(valuesOf(a), valuesOf(b), minus)), a, b)
		}
	}
}

func points(r *rand.Rand, n, most int) []api.Vec {
	l := make([]api.Vec, n)
	for i := range l {
		l[i] = point(r, most)
	}
	return l
}

// P5.1: as many as one likes, of numbers of all kinds.
func TestSumOfManyVecs(t *testing.T) {
	r := source(3)
	for range 2000 {
		l := points(r, r.IntN(10), 1+r.IntN(6))
		isVec(t, Sum(l...), vecOf(sumOf(l)), l)
	}
}

// P5.1 and P1: long lists, also of one Vec many times.
func TestLongSums(t *testing.T) {
	l := make([]api.Vec, 2000)
	for i := range l {
		l[i] = api.Vec{X: ratOf(big.NewRat(1, int64(i+1))), Y: ratOf(big.NewRat(int64(i), 1)), Z: ratOf(big.NewRat(-1, int64(i%7+1)))}
	}
	isVec(t, Sum(l...), vecOf(sumOf(l)), "1 + 1/2 + 1/3 ..")
	isVec(t, Sum(slices.Repeat([]api.Vec{words("1/7", "-2", "0")}, 70000)...), Of(10000, -140000, 0), "many times")
}

// P5.1
func TestSubOfNamedVecs(t *testing.T) {
	isVec(t, Sub(Of(5, 7, 9), Of(1, 2, 3)), Of(4, 5, 6))
	isVec(t, Sub(Of(1, 2, 3), Of(5, 7, 9)), Of(-4, -5, -6))
	isVec(t, Sub(words("1/2", "1/2", "-1/2"), words("1/3", "-1/3", "1/3")), words("1/6", "5/6", "-5/6"))
	isVec(t, Sub(api.Vec{}, Of(1, -1, 0)), Of(-1, 1, 0))
	isVec(t, Sub(Of(0, 0, 0), api.Vec{}), origin())
}

// P5.1
func TestSubOfManyVecs(t *testing.T) {
	r := source(4)
	for range 3000 {
		a, b := point(r, 1+r.IntN(6)), point(r, 1+r.IntN(6))
		isVec(t, Sub(a, b), vecOf(each(valuesOf(a), valuesOf(b), minus)), a, b)
	}
}

// P5.1: by 0, however it is written, by 1, by numbers below 0 and with a Den.
func TestScaleOfNamedVecs(t *testing.T) {
	isVec(t, Scale(word("1/2"), Of(2, 4, 6)), Of(1, 2, 3))
	isVec(t, Scale(word("-1"), Of(1, -2, 0)), Of(-1, 2, 0))
	isVec(t, Scale(word("-2/3"), words("3/2", "-9", "1/5")), words("-1", "6", "-2/15"))
	isVec(t, Scale(api.Rat{}, api.Vec{}), origin())
	isVec(t, Scale(word("-7"), api.Vec{}), origin())
	for _, v := range mixed() {
		for _, zero := range zeros() {
			isVec(t, Scale(zero, v), origin(), zero, v)
		}
		for _, one := range writings(word("1")) {
			isVec(t, Scale(one, v), v, one, v)
		}
	}
}

func scaled(k *big.Rat, l values) values {
	return values{times(k, l[0]), times(k, l[1]), times(k, l[2])}
}

// P5.1: all kinds of factors, also one that stands in the Vec itself.
func TestScaleOfManyVecs(t *testing.T) {
	for _, k := range kinds() {
		for _, v := range mixed() {
			isVec(t, Scale(k, v), vecOf(scaled(valueOf(k), valuesOf(v))), k, v)
			isVec(t, Scale(v.Y, v), vecOf(scaled(valueOf(v.Y), valuesOf(v))), v)
		}
	}
	r := source(5)
	for range 3000 {
		k, v := number(r, 1+r.IntN(6)), point(r, 1+r.IntN(6))
		isVec(t, Scale(k, v), vecOf(scaled(valueOf(k), valuesOf(v))), k, v)
	}
}
