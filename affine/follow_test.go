package affine

import (
	"math/big"
	"testing"

	"penumbra/api"
	"penumbra/rat"
	"penumbra/vec"
)

// any600 are many maps: named ones, and others.
func any600(seed uint64) []api.Map {
	all, r := manyMaps(), source(seed)
	for len(all) < 600 {
		all = append(all, anyMap(r, 1+r.IntN(3)))
	}
	return all
}

// directions are those of length 1: named ones, and many of all sizes.
func directions(seed uint64) []api.Vec {
	all, r := lengthOne(), source(seed)
	for range 300 {
		all = append(all, vecOf(unit(r, 1+r.IntN(3))))
	}
	return all
}

// P7.4: what Area tells of Cross(a, b) is Cross of Turn(m, a) and Turn(m, b).
func TestAreaTakesCrosses(t *testing.T) {
	r := source(9)
	for _, m := range any600(10) {
		a, b := point(r, 1+r.IntN(3)), point(r, 1+r.IntN(3))
		isVec(t, Area(m, vec.Cross(a, b)), vec.Cross(Turn(m, a), Turn(m, b)), m, a, b)
		isVec(t, Area(m, vec.Cross(a, a)), origin(), m, a)
	}
	for _, m := range manyMaps() {
		for i, a := range places() {
			b := places()[(i+11)%50]
			isVec(t, Area(m, vec.Cross(a, b)), vec.Cross(Turn(m, a), Turn(m, b)), m, a, b)
		}
	}
}

// P7.4: Det of Then is the product; so Area of Then is Area of what Area told.
func TestDetOfThen(t *testing.T) {
	all, r := any600(11), source(12)
	for i, a := range all {
		b := all[(i+r.IntN(len(all)))%len(all)]
		isNumber(t, Det(Then(a, b)), rat.Product(Det(a), Det(b)), a, b)
		n := point(r, 2)
		isVec(t, Area(Then(a, b), n), Area(b, Area(a, n)), a, b, n)
	}
	for _, a := range manyMaps() {
		for _, b := range manyMaps() {
			isNumber(t, Det(Then(a, b)), rat.Product(Det(a), Det(b)), a, b)
		}
	}
}

// P7.4: Stretch by k, then by l, is Stretch by k times l.
func TestStretchThenStretch(t *testing.T) {
	r := source(13)
	for _, n := range directions(14) {
		p, k, l := point(r, 1+r.IntN(2)), number(r, 1+r.IntN(2)), number(r, 1+r.IntN(2))
		isMap(t, Then(Stretch(p, n, k), Stretch(p, n, l)), Stretch(p, n, rat.Product(k, l)), p, n, k, l)
	}
	for _, n := range lengthOne() {
		for _, k := range kinds() {
			for _, l := range kinds() {
				isMap(t, Then(Stretch(words("4 -7 5/2"), n, k), Stretch(words("4 -7 5/2"), n, l)), Stretch(words("4 -7 5/2"), n, rat.Product(k, l)), n, k, l)
			}
		}
	}
}

// P7.4: Stretch by k keeps the plane's points, its Det is k; so there is an inverse, which is Stretch by 1 over k, but for 0.
func TestStretchKeepsItsPlane(t *testing.T) {
	r := source(15)
	for i, n := range directions(16) {
		p, k, d := point(r, 1+r.IntN(2)), number(r, 1+r.IntN(2)), point(r, 1+r.IntN(2))
		if i%3 == 0 {
			k = kinds()[i%10]
		}
		m := Stretch(p, n, k)
		for _, x := range []api.Vec{vec.Read(p), vec.Sum(p, vec.Cross(n, d)), vec.Sub(p, vec.Cross(n, vec.Cross(n, d)))} {
			isNumber(t, vec.Dot(vec.Sub(x, p), n), none(), "not in the plane", p, n, x)
			isVec(t, Apply(m, x), x, p, n, k)
		}
		isVec(t, Apply(m, vec.Sum(p, n)), vec.Sum(p, vec.Scale(k, n)), p, n, k)
		isNumber(t, Det(m), rat.Read(k), p, n, k)
		share, ok := rat.Div(rat.Of(1, 1), k)
		if ok {
			isInverse(t, m, Stretch(p, n, share))
		} else {
			isNoInverse(t, m)
		}
	}
}

// P7.4: by -1 it is a mirror: lengths stay, and what is done twice is taken back.
func TestStretchMirrors(t *testing.T) {
	r := source(17)
	back := rat.Of(-1, 1)
	for _, n := range directions(18) {
		p, x, y := point(r, 1+r.IntN(2)), point(r, 1+r.IntN(2)), point(r, 1+r.IntN(2))
		m := Stretch(p, n, back)
		first, second := vec.Sub(x, y), vec.Sub(Apply(m, x), Apply(m, y))
		isNumber(t, vec.Dot(second, second), vec.Dot(first, first), p, n, x, y)
		isNumber(t, vec.Dot(Turn(m, x), Turn(m, y)), vec.Dot(x, y), p, n, x, y)
		isMap(t, Then(m, m), standing(), p, n)
		isNumber(t, Det(m), back, p, n)
		isVec(t, Turn(m, n), vec.Scale(back, n), p, n)
		isVec(t, Area(m, n), n, p, n)
		isMap(t, m, Stretch(p, vec.Scale(back, n), back), p, n)
	}
}

// P7.4 is of directions of length 1: of others Det is 1 and (k - 1) Dot(n, n), and p's plane is still kept.
func TestStretchOfOtherLengths(t *testing.T) {
	r := source(19)
	for range 300 {
		p, n, k, d := point(r, 1+r.IntN(2)), point(r, 1+r.IntN(2)), number(r, 1+r.IntN(2)), point(r, 1+r.IntN(2))
		m := Stretch(p, n, k)
		one := big.NewRat(1, 1)
		isNumber(t, Det(m), ratOf(plus(one, times(minus(valueOf(k), one), dotOf(valuesOf(n), valuesOf(n))))), p, n, k)
		x := vec.Sum(p, vec.Cross(n, d))
		isVec(t, Apply(m, x), x, p, n, k)
	}
}
