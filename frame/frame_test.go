package frame

import (
	"math/big"
	"testing"

	"penumbra/api"
)

// isOf holds what Of answers against E1 and E2, which are canonical, and against n itself.
func isOf(t *testing.T, n, first, second api.Vec) {
	t.Helper()
	f, ok := Of(n)
	isFrame(t, f, api.Frame{E1: first, E2: second, N: vecOf(valuesOf(n))}, n)
	if !ok {
		t.Errorf("Of %v: false", n)
	}
}

// isNoFrame holds it against three times 0 0 0 and false.
func isNoFrame(t *testing.T, n api.Vec) {
	t.Helper()
	f, ok := Of(n)
	isFrame(t, f, noFrame(), n)
	if ok {
		t.Errorf("Of %v: true", n)
	}
}

// frameOf reckons the frame around a direction of length 1 by its closed form: q is 2 (1 - nZ), so that 2 wX / q is -nX / (1 - nZ).
func frameOf(n values) (api.Vec, api.Vec) {
	one, rest := big.NewRat(1, 1), minus(big.NewRat(1, 1), n[2])
	if rest.Sign() == 0 {
		return words("1", "0", "0"), words("0", "1", "0")
	}
	both := new(big.Rat).Neg(over(times(n[0], n[1]), rest))
	first := values{minus(one, over(times(n[0], n[0]), rest)), both, n[0]}
	second := values{both, minus(one, over(times(n[1], n[1]), rest)), n[1]}
	return vecOf(first), vecOf(second)
}

// P6.1: at both ends of the third axis: there w is 0 0 0, or along the axis.
func TestOfAtThirdAxis(t *testing.T) {
	isOf(t, words("0", "0", "1"), words("1", "0", "0"), words("0", "1", "0"))
	isOf(t, words("0", "0", "-1"), words("1", "0", "0"), words("0", "1", "0"))
}

// P6.1: at the other axes.
func TestOfAtOtherAxes(t *testing.T) {
	isOf(t, words("1", "0", "0"), words("0", "0", "1"), words("0", "1", "0"))
	isOf(t, words("-1", "0", "0"), words("0", "0", "-1"), words("0", "1", "0"))
	isOf(t, words("0", "1", "0"), words("1", "0", "0"), words("0", "0", "1"))
	isOf(t, words("0", "-1", "0"), words("1", "0", "0"), words("0", "0", "-1"))
}

// P6.1: the document's example and its signs; two numbers beside a 0; three that are all others, so that no two places are mixed up.
func TestOfNamedDirections(t *testing.T) {
	isOf(t, words("2/3", "1/3", "2/3"), words("-1/3", "-2/3", "2/3"), words("-2/3", "2/3", "1/3"))
	isOf(t, words("-2/3", "1/3", "2/3"), words("-1/3", "2/3", "-2/3"), words("2/3", "2/3", "1/3"))
	isOf(t, words("2/3", "-1/3", "2/3"), words("-1/3", "2/3", "2/3"), words("2/3", "2/3", "-1/3"))
	isOf(t, words("2/3", "1/3", "-2/3"), words("11/15", "-2/15", "2/3"), words("-2/15", "14/15", "1/3"))
	isOf(t, words("0", "3/5", "4/5"), words("1", "0", "0"), words("0", "-4/5", "3/5"))
	isOf(t, words("0", "-3/5", "-4/5"), words("1", "0", "0"), words("0", "4/5", "-3/5"))
	isOf(t, words("3/5", "0", "-4/5"), words("4/5", "0", "3/5"), words("0", "1", "0"))
	isOf(t, words("3/5", "-4/5", "0"), words("16/25", "12/25", "3/5"), words("12/25", "9/25", "-4/5"))
	isOf(t, words("2/7", "3/7", "6/7"), words("3/7", "-6/7", "2/7"), words("-6/7", "-2/7", "3/7"))
	isOf(t, words("-6/7", "2/7", "-3/7"), words("17/35", "6/35", "-6/7"), words("6/35", "33/35", "2/7"))
}

// P6.1: just beside (0 0 1) and (0 0 -1), with numbers of many limbs.
func TestOfBesideThirdAxis(t *testing.T) {
	for _, limbs := range []int{1, 2, 3, 7, 20} {
		m := new(big.Rat).SetInt(bigOf(run(limbs, top)))
		square := plus(times(m, m), big.NewRat(1, 1))
		far, near := over(minus(square, big.NewRat(2, 1)), square), over(times(m, big.NewRat(2, 1)), square)
		for _, sign := range []int64{1, -1} {
			z, none := times(big.NewRat(sign, 1), far), new(big.Rat)
			for _, n := range []values{{near, none, z}, {none, near, z}, {new(big.Rat).Neg(near), none, z}, {none, new(big.Rat).Neg(near), z}} {
				first, second := frameOf(n)
				isOf(t, vecOf(n), first, second)
			}
		}
	}
}

// P6.1: directions of length 1 whose numbers are of one limb and of many, and the same ones, written otherwise.
func TestOfManyDirections(t *testing.T) {
	r := source(1)
	var signs [3][3]int
	for range 2000 {
		n := unit(r, 1+r.IntN(5))
		for i, value := range n {
			signs[i][value.Sign()+1]++
		}
		first, second := frameOf(n)
		isOf(t, vecOf(n), first, second)
		isOf(t, loose(vecOf(n)), first, second)
	}
	for i, found := range signs {
		if found[0] < 100 || found[1] < 100 || found[2] < 100 {
			t.Errorf("%c: below 0, 0 and above 0: %v", "XYZ"[i], found)
		}
	}
}

// P6.1: whatever way the numbers are written in, also those of (0 0 1).
func TestOfWritings(t *testing.T) {
	for _, n := range []api.Vec{words("0", "0", "1"), words("0", "0", "-1"), words("1", "0", "0"), words("0", "-1", "0"), words("2/3", "-1/3", "2/3"), words("0", "3/5", "-4/5")} {
		first, second := frameOf(valuesOf(n))
		for _, w := range vecWritings(n) {
			isOf(t, w, first, second)
		}
	}
}

// P6.1: no frame without the length 1, also where the length is another number, or none.
func TestOfWithoutLengthOne(t *testing.T) {
	for _, n := range []api.Vec{
		{}, origin(), words("0", "0", "2"), words("0", "0", "-2"), words("0", "0", "1/2"), words("2", "0", "0"), words("0", "1/2", "0"),
		words("1", "1", "0"), words("1", "0", "1"), words("0", "1", "1"), words("1", "-1", "0"), words("1", "1", "1"), words("1", "1", "-1"),
		words("3", "0", "-4"), words("2", "1", "2"), words("1/3", "1/3", "1/3"), words("1/2", "1/2", "0"), words("1/2", "1/4", "1/4"),
		words("2/3", "1/3", "1/3"), words("2/3", "2/3", "2/3"), words("3/5", "4/5", "1/1000"), words("3/5", "0", "3/5"),
		{X: below(list(1), nil), Y: none(), Z: none()}, {X: none(), Y: none(), Z: above(list(1), list(0, 0))},
	} {
		isNoFrame(t, n)
	}
	all := zeros()
	for i, zero := range all {
		isNoFrame(t, api.Vec{X: zero, Y: all[(i+3)%len(all)], Z: all[(i+8)%len(all)]})
	}
}

// P6.1: just beside the length 1, by many limbs.
func TestOfBesideLengthOne(t *testing.T) {
	for n := 1; n < 30; n++ {
		limbs, more := run(n, top), append(run(n, 0), 1)
		for _, r := range []api.Rat{above(limbs, more), below(limbs, more), above(more, limbs), below(more, limbs)} {
			isNoFrame(t, api.Vec{X: r, Y: none(), Z: none()})
			isNoFrame(t, api.Vec{X: none(), Y: r, Z: none()})
			isNoFrame(t, api.Vec{X: none(), Y: none(), Z: r})
		}
		isNoFrame(t, api.Vec{X: word("3/5"), Y: above(list(1), more), Z: word("-4/5")})
		isNoFrame(t, api.Vec{X: above(list(1), more), Y: none(), Z: word("1")})
		isNoFrame(t, api.Vec{X: none(), Y: above(list(1), more), Z: word("1")})
	}
}

// P6.1: any Vecs, and directions of length 1 of which one number is changed; whether the length is 1 is told by another reckoner.
func TestOfAnyVecs(t *testing.T) {
	r := source(2)
	one := big.NewRat(1, 1)
	for range 3000 {
		n := valuesOf(point(r, 1+r.IntN(3)))
		if r.IntN(2) == 0 {
			n = unit(r, 1+r.IntN(3))
			place := r.IntN(3)
			n[place] = plus(n[place], valueOf(number(r, 1)))
		}
		if dotOf(n, n).Cmp(one) != 0 {
			isNoFrame(t, loose(vecOf(n)))
			continue
		}
		first, second := frameOf(n)
		isOf(t, vecOf(n), first, second)
	}
}
