package affine

import (
	"math/big"
	"testing"

	"penumbra/api"
)

// areaOf reckons it from the minors with their signs.
func areaOf(m api.Map, n api.Vec) api.Vec {
	l, v := rowsOf(m), valuesOf(n)
	var out values
	for row := range out {
		out[row] = new(big.Rat)
		for place := range v {
			out[row].Add(out[row], times(signed(l, row, place), v[place]))
		}
	}
	return vecOf(out)
}

func isArea(t *testing.T, m api.Map, n api.Vec) {
	t.Helper()
	isVec(t, Area(m, n), areaOf(m, n), m, n)
}

// P7.2: the document's examples: of a mirror.
func TestAreaOfMirrors(t *testing.T) {
	m := mapWords("1 0 0", "0 1 0", "0 0 -1", "0 0 2")
	isVec(t, Area(m, words("0 0 1")), words("0 0 1"))
	isVec(t, Area(m, words("1 0 0")), words("-1 0 0"))
	isVec(t, Area(m, words("0 1 0")), words("0 -1 0"))
	isVec(t, Area(m, words("2 -3/2 5")), words("-2 3/2 5"))
	isVec(t, Area(mapWords("0 1 0", "1 0 0", "0 0 1", "1 2 3"), words("2 3 5")), words("-3 -2 -5"))
	isVec(t, Area(mapWords("-1 0 0", "0 -1 0", "0 0 -1", "0 0 0"), words("2 3 5")), words("2 3 5"))
}

// P7.2: maps that are not symmetric, each row and each number by itself; Move is of no moment.
func TestAreaOfNamedMaps(t *testing.T) {
	for _, move := range []string{"0 0 0", "23 -29 31/2"} {
		m := mapWords("1 2 3", "5 7 11", "13 17 19", move)
		isVec(t, Area(m, words("1 0 0")), words("-54 13 1"))
		isVec(t, Area(m, words("0 1 0")), words("48 -20 4"))
		isVec(t, Area(m, words("0 0 1")), words("-6 9 -3"))
		isVec(t, Area(m, words("-1 1/2 2")), words("66 -5 -5"))
		isVec(t, Area(mapWords("2 1 0", "0 1 0", "0 0 3", move), words("1 2 3")), words("3 9 6"))
		isVec(t, Area(mapWords("1/2 1/3 0", "0 1/5 1", "1/7 0 2", move), words("1 0 0")), words("2/5 -2/3 1/3"))
		isVec(t, Area(mapWords("1/2 1/3 0", "0 1/5 1", "1/7 0 2", move), words("0 1 0")), words("1/7 1 -1/2"))
		isVec(t, Area(mapWords("1/2 1/3 0", "0 1/5 1", "1/7 0 2", move), words("0 0 1")), words("-1/35 1/21 1/10"))
		isVec(t, Area(mapWords("2 0 0", "0 3 0", "0 0 5", move), words("1 1 1")), words("15 10 6"))
	}
}

// P7.2: maps whose Det is 0: onto a plane, onto a line, onto a point.
func TestAreaWhereDetIsZero(t *testing.T) {
	isVec(t, Area(mapWords("1 0 0", "0 1 0", "0 0 0", "0 0 5"), words("2 3 5")), words("0 0 5"))
	isVec(t, Area(mapWords("0 0 0", "2 -3 5", "7 11 -13", "1 2 3"), words("1 1 1")), words("88 0 0"))
	isVec(t, Area(mapWords("1 0 0", "1 0 0", "0 0 1", "0 0 0"), words("2 3 5")), words("-3 3 0"))
	isVec(t, Area(mapWords("1 2 3", "4 5 6", "7 8 9", "1 1 1"), words("1 0 0")), words("-3 6 -3"))
	isVec(t, Area(mapWords("0 0 1", "0 0 -2", "0 0 3", "4 5 6"), words("2 3 5")), origin())
	for _, n := range places() {
		isVec(t, Area(api.Map{}, n), origin(), n)
		isVec(t, Area(api.Map{X: n, Y: n, Z: n, Move: n}, n), origin(), n)
		isVec(t, Area(standing(), n), n, n)
		isVec(t, Area(mapWords("1 2 3", "5 7 11", "13 17 19", "0 0 0"), api.Vec{X: n.X, Y: zeros()[12], Z: api.Rat{}}), areaOf(mapWords("1 2 3", "5 7 11", "13 17 19", "0 0 0"), api.Vec{X: n.X, Y: none(), Z: none()}), n)
	}
}

// P7.2: all kinds of numbers, canonical and not; one Vec in several places.
func TestAreaOfManyMaps(t *testing.T) {
	r := source(7)
	for _, m := range manyMaps() {
		for _, n := range places() {
			isArea(t, m, n)
			isArea(t, looseMap(m), loose(n))
			isArea(t, api.Map{X: m.X, Y: n, Z: m.Z, Move: n}, n)
		}
		isArea(t, m, m.X)
		isArea(t, m, m.Move)
	}
	for range 1000 {
		isArea(t, anyMap(r, 1+r.IntN(4)), point(r, 1+r.IntN(4)))
	}
}
