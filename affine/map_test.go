package affine

import (
	"testing"

	"penumbra/api"
)

// turnOf and applyOf reckon where a direction and a point are taken, by another reckoner.
func turnOf(m api.Map, d values) values {
	l := rowsOf(m)
	return values{dotOf(l[0], d), dotOf(l[1], d), dotOf(l[2], d)}
}

func applyOf(m api.Map, p values) values { return sumOf(turnOf(m, p), valuesOf(m.Move)) }

// thenOf reckons the map by a first, then by b, from where the axes and 0 0 0 are taken: those are its columns and its Move.
func thenOf(a, b api.Map) api.Map {
	return mapOf(columnsOf(func(d values) values { return turnOf(b, turnOf(a, d)) }), applyOf(b, valuesOf(a.Move)))
}

// columnsOf answers the rows of what takes directions to directions.
func columnsOf(taken func(d values) values) rows {
	var out rows
	for place := range 3 {
		for row, value := range taken(axis(place)) {
			out[row][place] = value
		}
	}
	return out
}

// isTaken holds Apply and Turn against another reckoner.
func isTaken(t *testing.T, m api.Map, p api.Vec) {
	t.Helper()
	isVec(t, Apply(m, p), vecOf(applyOf(m, valuesOf(p))), "Apply", m, p)
	isVec(t, Turn(m, p), vecOf(turnOf(m, valuesOf(p))), "Turn", m, p)
}

func isThen(t *testing.T, a, b api.Map) {
	t.Helper()
	isMap(t, Then(a, b), thenOf(a, b), a, b)
}

// P7.1: each number of Identity, and that it takes each point, and each direction, to itself.
func TestIdentity(t *testing.T) {
	isMap(t, Identity(), standing())
	for _, p := range places() {
		isVec(t, Apply(Identity(), p), p, p)
		isVec(t, Turn(Identity(), p), p, p)
		isVec(t, Apply(Identity(), loose(p)), p, p)
	}
}

// P7.1: each row by itself, with each number of the point by itself; directions are without Move.
func TestEachRow(t *testing.T) {
	m := mapWords("1 2 3", "5 7 11", "13 17 19", "23 -29 31/2")
	isVec(t, Apply(m, words("0 0 0")), words("23 -29 31/2"))
	isVec(t, Turn(m, words("0 0 0")), words("0 0 0"))
	isVec(t, Apply(m, words("1 0 0")), words("24 -24 57/2"))
	isVec(t, Turn(m, words("1 0 0")), words("1 5 13"))
	isVec(t, Apply(m, words("0 1 0")), words("25 -22 65/2"))
	isVec(t, Turn(m, words("0 1 0")), words("2 7 17"))
	isVec(t, Apply(m, words("0 0 1")), words("26 -18 69/2"))
	isVec(t, Turn(m, words("0 0 1")), words("3 11 19"))
	isVec(t, Apply(m, words("-1 1/2 2")), words("29 -17/2 49"))
	isVec(t, Turn(m, words("-1 1/2 2")), words("6 41/2 67/2"))
	isVec(t, Turn(mapWords("2 -3 5", "0 0 0", "0 0 0", "7 8 9"), words("1 1/2 -1")), words("-9/2 0 0"))
	isVec(t, Turn(mapWords("0 0 0", "2 -3 5", "0 0 0", "7 8 9"), words("1 1/2 -1")), words("0 -9/2 0"))
	isVec(t, Turn(mapWords("0 0 0", "0 0 0", "2 -3 5", "7 8 9"), words("1 1/2 -1")), words("0 0 -9/2"))
}

// P7.1: each number of Move by itself.
func TestEachNumberOfMove(t *testing.T) {
	p := words("4 -5/3 6")
	for _, c := range []struct{ move, point, along string }{
		{"2 0 0", "6 -5/3 6", "2 0 0"}, {"0 2 0", "4 1/3 6", "0 2 0"}, {"0 0 2", "4 -5/3 8", "0 0 2"},
		{"-4 0 0", "0 -5/3 6", "-4 0 0"}, {"0 5/3 0", "4 0 6", "0 5/3 0"}, {"0 0 -13/2", "4 -5/3 -1/2", "0 0 -13/2"},
	} {
		m := mapWords("1 0 0", "0 1 0", "0 0 1", c.move)
		isVec(t, Apply(m, p), words(c.point), c)
		isVec(t, Turn(m, p), p, c)
		isVec(t, Apply(mapWords("0 0 0", "0 0 0", "0 0 0", c.move), p), words(c.along), c)
		isVec(t, Turn(mapWords("0 0 0", "0 0 0", "0 0 0", c.move), p), origin(), c)
	}
}

// P7.1: the map of the document's examples.
func TestDocumentsMirror(t *testing.T) {
	m := mapWords("1 0 0", "0 1 0", "0 0 -1", "0 0 2")
	isVec(t, Apply(m, words("2 3 5")), words("2 3 -3"))
	isVec(t, Turn(m, words("2 3 5")), words("2 3 -5"))
	isVec(t, Apply(m, words("-1/2 0 1")), words("-1/2 0 1"))
}

// P7.1: all kinds of numbers, canonical and not; one Vec as the point and as parts of the map.
func TestApplyAndTurnOfKinds(t *testing.T) {
	for _, m := range manyMaps() {
		for _, p := range places() {
			isTaken(t, m, p)
			isTaken(t, looseMap(m), loose(p))
			isTaken(t, api.Map{X: p, Y: m.Y, Z: p, Move: p}, p)
		}
		isTaken(t, m, m.X)
		isTaken(t, m, m.Move)
	}
	for _, p := range places() {
		isTaken(t, api.Map{X: p, Y: p, Z: p, Move: p}, p)
	}
}

// P7.1: numbers that are mostly not canonical.
func TestApplyAndTurnOfAnyMaps(t *testing.T) {
	r := source(1)
	for range 1500 {
		isTaken(t, anyMap(r, 1+r.IntN(5)), point(r, 1+r.IntN(5)))
	}
}

// P7.1: a is first, then b, of maps that do not come to the same the other way round.
func TestThenHasAnOrder(t *testing.T) {
	shift, wide := mapWords("1 0 0", "0 1 0", "0 0 1", "1 2 3"), mapWords("2 0 0", "0 3 0", "0 0 5", "0 0 0")
	isMap(t, Then(shift, wide), mapWords("2 0 0", "0 3 0", "0 0 5", "2 6 15"))
	isMap(t, Then(wide, shift), mapWords("2 0 0", "0 3 0", "0 0 5", "1 2 3"))
	aroundZ, aroundX := mapWords("0 -1 0", "1 0 0", "0 0 1", "0 0 0"), mapWords("1 0 0", "0 0 -1", "0 1 0", "0 0 0")
	isMap(t, Then(aroundZ, aroundX), mapWords("0 -1 0", "0 0 -1", "1 0 0", "0 0 0"))
	isMap(t, Then(aroundX, aroundZ), mapWords("0 0 1", "1 0 0", "0 1 0", "0 0 0"))
	first, second := mapWords("1 2 3", "5 7 11", "13 17 19", "1 0 -1"), mapWords("1 0 1/2", "0 2 0", "-1 1 0", "7 1/3 0")
	isMap(t, Then(first, second), mapWords("15/2 21/2 25/2", "10 14 22", "4 5 8", "15/2 1/3 -1"))
	isMap(t, Then(second, first), mapWords("-2 7 1/2", "-6 25 5/2", "-6 53 13/2", "26/3 112/3 287/3"))
	mirror, skew := mapWords("1 0 0", "0 1 0", "0 0 -1", "0 0 2"), mapWords("2 1 0", "0 1 0", "0 0 3", "1 1 1")
	isMap(t, Then(mirror, skew), mapWords("2 1 0", "0 1 0", "0 0 -3", "1 1 7"))
	isMap(t, Then(skew, mirror), mapWords("2 1 0", "0 1 0", "0 0 -3", "1 1 1"))
	isVec(t, Apply(Then(mirror, skew), words("4 5 6")), words("14 6 -11"))
}

// P7.1: Identity beside a map, on either side, and what takes all to one point.
func TestThenOfIdentity(t *testing.T) {
	for _, m := range manyMaps() {
		read := mapOf(rowsOf(m), valuesOf(m.Move))
		isMap(t, Then(Identity(), m), read, m)
		isMap(t, Then(m, Identity()), read, m)
		point := mapWords("0 0 0", "0 0 0", "0 0 0", "5 -1/2 3")
		isMap(t, Then(m, point), point, m)
		isMap(t, Then(point, m), api.Map{X: origin(), Y: origin(), Z: origin(), Move: vecOf(applyOf(m, valuesOf(point.Move)))}, m)
	}
}

// P7.1: each map behind each other one, and behind itself; canonical and not.
func TestThenOfManyMaps(t *testing.T) {
	r := source(2)
	for _, a := range manyMaps() {
		for _, b := range manyMaps() {
			isThen(t, a, b)
			isThen(t, looseMap(a), b)
			isThen(t, a, looseMap(b))
		}
		isThen(t, a, a)
	}
	for range 800 {
		isThen(t, anyMap(r, 1+r.IntN(3)), anyMap(r, 1+r.IntN(3)))
	}
}

// P7.1: the map by a, then by b, takes points and directions where b takes what a made of them.
func TestThenTakesOneBehindTheOther(t *testing.T) {
	r := source(3)
	for range 800 {
		a, b, p := anyMap(r, 1+r.IntN(3)), anyMap(r, 1+r.IntN(3)), point(r, 1+r.IntN(3))
		isVec(t, Apply(Then(a, b), p), Apply(b, Apply(a, p)), a, b, p)
		isVec(t, Turn(Then(a, b), p), Turn(b, Turn(a, p)), a, b, p)
		c := anyMap(r, 1+r.IntN(2))
		isMap(t, Then(Then(a, b), c), Then(a, Then(b, c)), a, b, c)
	}
}
