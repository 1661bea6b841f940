package vec

import (
	"testing"

	"penumbra/api"
	"penumbra/rat"
)

func axes() [3]api.Vec { return [3]api.Vec{Of(1, 0, 0), Of(0, 1, 0), Of(0, 0, 1)} }

// P5.2: each product by itself, right angles, the same one twice, ones that lie along each other.
func TestDotOfNamedVecs(t *testing.T) {
	isNumber(t, Dot(Of(1, 2, 3), Of(4, -5, 6)), word("12"))
	isNumber(t, Dot(api.Vec{}, api.Vec{}), none())
	isNumber(t, Dot(Of(3, 5, 7), Of(11, 0, 0)), word("33"))
	isNumber(t, Dot(Of(3, 5, 7), Of(0, 11, 0)), word("55"))
	isNumber(t, Dot(Of(3, 5, 7), Of(0, 0, 11)), word("77"))
	isNumber(t, Dot(Of(1, 1, 0), Of(1, -1, 9)), none())
	isNumber(t, Dot(words("1/2", "-1/3", "1/6"), Of(1, 1, -1)), none())
	isNumber(t, Dot(words("1/2", "1/3", "-1/6"), words("1/2", "1/3", "-1/6")), word("7/18"))
	isNumber(t, Dot(Of(1, 2, 2), Of(-2, -4, -4)), word("-18"))
	for i, a := range axes() {
		for j, b := range axes() {
			want := none()
			if i == j {
				want = word("1")
			}
			isNumber(t, Dot(a, b), want, i, j)
		}
	}
}

func crossOf(a, b values) values {
	return values{
		minus(times(a[1], b[2]), times(a[2], b[1])),
		minus(times(a[2], b[0]), times(a[0], b[2])),
		minus(times(a[0], b[1]), times(a[1], b[0])),
	}
}

// P5.2: the document's example and its turns; the same one twice, ones that lie along each other.
func TestCrossOfNamedVecs(t *testing.T) {
	axes := axes()
	for i := range axes {
		a, b, c := axes[i], axes[(i+1)%3], axes[(i+2)%3]
		isVec(t, Cross(a, b), c, i)
		isVec(t, Cross(b, a), Scale(word("-1"), c), i)
		isVec(t, Cross(a, a), origin(), i)
	}
	isVec(t, Cross(Of(2, 3, 5), Of(7, 11, 13)), Of(-16, 9, 1))
	isVec(t, Cross(words("1/2", "0", "0"), words("0", "2/3", "-1/5")), words("0", "1/10", "1/3"))
	isVec(t, Cross(api.Vec{}, api.Vec{}), origin())
	isVec(t, Cross(Of(1, 2, 3), api.Vec{}), origin())
	isVec(t, Cross(words("1/2", "-1/3", "5"), words("-3/2", "1", "-15")), origin())
}

// P5.2: all kinds of numbers.
func TestDotAndCrossOfKinds(t *testing.T) {
	for _, a := range mixed() {
		isVec(t, Cross(a, a), origin(), a)
		for _, k := range kinds() {
			isVec(t, Cross(a, Scale(k, a)), origin(), a, k)
			isVec(t, Cross(Scale(k, a), a), origin(), a, k)
		}
		for _, b := range mixed() {
			isNumber(t, Dot(a, b), ratOf(dotOf(valuesOf(a), valuesOf(b))), a, b)
			isVec(t, Cross(a, b), vecOf(crossOf(valuesOf(a), valuesOf(b))), a, b)
		}
	}
}

// P5.2: numbers that are mostly not canonical.
func TestDotAndCrossOfManyVecs(t *testing.T) {
	r := source(6)
	for range 3000 {
		a, b := point(r, 1+r.IntN(6)), point(r, 1+r.IntN(6))
		isNumber(t, Dot(a, b), ratOf(dotOf(valuesOf(a), valuesOf(b))), a, b)
		isNumber(t, Dot(a, a), ratOf(dotOf(valuesOf(a), valuesOf(a))), a)
		isVec(t, Cross(a, b), vecOf(crossOf(valuesOf(a), valuesOf(b))), a, b)
		isVec(t, Cross(a, a), origin(), a)
	}
}

// P5.4: Cross is at right angles to both.
func TestCrossIsAtRightAngles(t *testing.T) {
	r := source(7)
	for range 1000 {
		a, b := point(r, 4), point(r, 4)
		across := Cross(a, b)
		isNumber(t, Dot(across, a), none(), a, b)
		isNumber(t, Dot(across, b), none(), a, b)
		isNumber(t, Dot(a, across), none(), a, b)
	}
}

// P5.4: the Dot of a Cross with a third one stays when the three go round.
func TestThreeGoRound(t *testing.T) {
	r := source(8)
	for range 1000 {
		a, b, c := point(r, 3), point(r, 3), point(r, 3)
		want := Dot(Cross(a, b), c)
		isNumber(t, Dot(Cross(b, c), a), want, a, b, c)
		isNumber(t, Dot(Cross(c, a), b), want, a, b, c)
		isNumber(t, Dot(Cross(b, a), c), rat.Neg(want), a, b, c)
	}
	isNumber(t, Dot(Cross(Of(1, 2, 3), Of(0, 1, 4)), Of(5, 6, 0)), word("1"))
}

// P5.4: the square of the Dot, and the Dot of Cross with itself, are together the product of each one's Dot with itself.
func TestSquaresOfDotAndCross(t *testing.T) {
	r := source(9)
	for range 1000 {
		a, b := point(r, 3), point(r, 3)
		dot, across := Dot(a, b), Cross(a, b)
		isNumber(t, rat.Sum(rat.Product(dot, dot), Dot(across, across)), rat.Product(Dot(a, a), Dot(b, b)), a, b)
	}
}
