package affine

import (
	"math/big"
	"testing"

	"penumbra/api"
)

// minor is the determinant of what is left without a row and a place.
func minor(l rows, row, place int) *big.Rat {
	var left [][]*big.Rat
	for i, r := range l {
		if i != row {
			var rest []*big.Rat
			for j, value := range r {
				if j != place {
					rest = append(rest, value)
				}
			}
			left = append(left, rest)
		}
	}
	return minus(times(left[0][0], left[1][1]), times(left[0][1], left[1][0]))
}

// signed is the minor with the sign that it has in the determinant.
func signed(l rows, row, place int) *big.Rat {
	if (row+place)%2 == 1 {
		return new(big.Rat).Neg(minor(l, row, place))
	}
	return minor(l, row, place)
}

// detOf reckons the determinant along the last column.
func detOf(m api.Map) *big.Rat {
	l, sum := rowsOf(m), new(big.Rat)
	for row := range 3 {
		sum.Add(sum, times(l[row][2], signed(l, row, 2)))
	}
	return sum
}

// inverseOf reckons the inverse by Gauss' steps, not by a determinant; where there is none it answers false.
func inverseOf(m api.Map) (api.Map, bool) {
	left, right := rowsOf(m), rows{axis(0), axis(1), axis(2)}
	for place := range 3 {
		found := place
		for found < 3 && left[found][place].Sign() == 0 {
			found++
		}
		if found == 3 {
			return api.Map{}, false
		}
		left[place], left[found] = left[found], left[place]
		right[place], right[found] = right[found], right[place]
		share := new(big.Rat).Inv(left[place][place])
		left[place], right[place] = scaled(share, left[place]), scaled(share, right[place])
		for row := range 3 {
			if row != place {
				k := left[row][place]
				left[row], right[row] = lessOf(left[row], scaled(k, left[place])), lessOf(right[row], scaled(k, right[place]))
			}
		}
	}
	move := valuesOf(m.Move)
	back := values{dotOf(right[0], move), dotOf(right[1], move), dotOf(right[2], move)}
	return mapOf(right, scaled(big.NewRat(-1, 1), back)), true
}

// isInverse holds against a wanted map, which is canonical, and against true.
func isInverse(t *testing.T, m, want api.Map) {
	t.Helper()
	got, ok := Inverse(m)
	isMap(t, got, want, m)
	if !ok {
		t.Errorf("Inverse %v: false", m)
	}
}

// isNoInverse holds against Identity and false.
func isNoInverse(t *testing.T, m api.Map) {
	t.Helper()
	got, ok := Inverse(m)
	isMap(t, got, standing(), m)
	if ok {
		t.Errorf("Inverse %v: true", m)
	}
}

// areDetAndInverse holds both against another reckoner, and tells the sign of the determinant.
func areDetAndInverse(t *testing.T, m api.Map) int {
	t.Helper()
	det := detOf(m)
	isNumber(t, Det(m), ratOf(det), "Det", m)
	want, ok := inverseOf(m)
	if ok != (det.Sign() != 0) {
		t.Fatalf("the reckoners differ at %v", m)
	}
	if ok {
		isInverse(t, m, want)
	} else {
		isNoInverse(t, m)
	}
	return det.Sign()
}

// P7.2: below 0 and above 0, also with a Den; Move is of no moment.
func TestDetOfNamedMaps(t *testing.T) {
	for _, c := range []struct{ x, y, z, det string }{
		{"1 0 0", "0 1 0", "0 0 1", "1"}, {"1 0 0", "0 1 0", "0 0 -1", "-1"}, {"2 0 0", "0 3 0", "0 0 5", "30"}, {"-2 0 0", "0 -3 0", "0 0 -5", "-30"},
		{"0 1 0", "0 0 1", "1 0 0", "1"}, {"0 0 1", "1 0 0", "0 1 0", "1"}, {"0 1 0", "1 0 0", "0 0 1", "-1"}, {"0 0 1", "0 1 0", "1 0 0", "-1"}, {"1 0 0", "0 0 1", "0 1 0", "-1"},
		{"1 2 3", "5 7 11", "13 17 19", "24"}, {"5 7 11", "1 2 3", "13 17 19", "-24"}, {"13 17 19", "1 2 3", "5 7 11", "24"}, {"2 1 0", "0 1 0", "0 0 3", "6"},
		{"1/2 0 0", "0 -1/3 0", "0 0 1/5", "-1/30"}, {"1/2 1/3 0", "0 1/5 1", "1/7 0 2", "26/105"}, {"2/3 1/3 2/3", "-2/3 2/3 1/3", "-1/3 -2/3 2/3", "1"},
	} {
		for _, move := range []string{"0 0 0", "7 -1/2 3"} {
			isNumber(t, Det(mapWords(c.x, c.y, c.z, move)), word(c.det), c)
		}
	}
}

// P7.2: rows in a plane, two that are the same, one that is 0 0 0: Det is 0, and the answer Identity and false.
func TestDetZero(t *testing.T) {
	for _, m := range lying() {
		for _, w := range []api.Map{m, looseMap(m), {X: m.Y, Y: m.Z, Z: m.X, Move: m.X}, {X: m.Y, Y: m.X, Z: m.Z, Move: m.Move}} {
			isNumber(t, Det(w), none(), w)
			isNoInverse(t, w)
		}
	}
	all := zeros()
	for i, zero := range all {
		flat := api.Vec{X: zero, Y: all[(i+3)%len(all)], Z: all[(i+8)%len(all)]}
		for _, m := range []api.Map{{X: flat, Y: words("1 2 3"), Z: words("3 2 2")}, {X: words("1 2 3"), Y: flat, Z: words("3 2 2")}, {X: words("1 2 3"), Y: words("3 2 2"), Z: flat, Move: flat}} {
			isNumber(t, Det(m), none(), m)
			isNoInverse(t, m)
		}
	}
}

// P7.2: rows in a plane whose numbers are many, and just beside it, on both sides, by many limbs.
func TestDetBesideZero(t *testing.T) {
	r := source(4)
	for n := 1; n < 12; n++ {
		x, y := valuesOf(point(r, n)), valuesOf(point(r, n))
		z := sumOf(scaled(whole(r, n), x), scaled(over(whole(r, n), big.NewRat(7, 1)), y))
		m := mapOf(rows{x, y, z}, valuesOf(point(r, 2)))
		isNumber(t, Det(m), none(), m)
		isNoInverse(t, m)
		bit := new(big.Rat).SetFrac(big.NewInt(1), bigOf(append(run(n, 0), 1)))
		for _, share := range []*big.Rat{bit, new(big.Rat).Neg(bit)} {
			near := rows{values{big.NewRat(1, 1), share, big.NewRat(1, 1)}, axis(1), sumOf(axis(0), axis(2))}
			near[2] = sumOf(near[2], scaled(share, axis(2)))
			if sign := areDetAndInverse(t, mapOf(near, axis(1))); sign != share.Sign() {
				t.Errorf("%d limbs: the sign is %d", n, sign)
			}
		}
	}
}

// P7.2: Inverse of maps with a Move, with a Det below 0, with a Den.
func TestInverseOfNamedMaps(t *testing.T) {
	isInverse(t, standing(), standing())
	isInverse(t, mapWords("1 0 0", "0 1 0", "0 0 1", "3 -5/2 7"), mapWords("1 0 0", "0 1 0", "0 0 1", "-3 5/2 -7"))
	isInverse(t, mapWords("1 0 0", "0 1 0", "0 0 -1", "0 0 2"), mapWords("1 0 0", "0 1 0", "0 0 -1", "0 0 2"))
	isInverse(t, mapWords("0 1 0", "0 0 1", "1 0 0", "1 2 3"), mapWords("0 0 1", "1 0 0", "0 1 0", "-3 -1 -2"))
	isInverse(t, mapWords("2 0 0", "0 -3 0", "0 0 5/7", "8 -6 10"), mapWords("1/2 0 0", "0 -1/3 0", "0 0 7/5", "-4 -2 -14"))
	isInverse(t, mapWords("2 1 0", "0 1 0", "0 0 3", "1 1 1"), mapWords("1/2 -1/2 0", "0 1 0", "0 0 1/3", "0 -1 -1/3"))
	isInverse(t, mapWords("1 2 3", "5 7 11", "13 17 19", "24 0 0"), mapWords("-9/4 13/24 1/24", "2 -5/6 1/6", "-1/4 3/8 -1/8", "54 -48 6"))
	isInverse(t, mapWords("1 2 3", "5 7 11", "13 17 19", "0 24 0"), mapWords("-9/4 13/24 1/24", "2 -5/6 1/6", "-1/4 3/8 -1/8", "-13 20 -9"))
	isInverse(t, mapWords("1 2 3", "5 7 11", "13 17 19", "0 0 -24"), mapWords("-9/4 13/24 1/24", "2 -5/6 1/6", "-1/4 3/8 -1/8", "1 4 -3"))
	isInverse(t, mapWords("5 7 11", "1 2 3", "13 17 19", "0 0 0"), mapWords("13/24 -9/4 1/24", "-5/6 2 1/6", "3/8 -1/4 -1/8", "0 0 0"))
}

// P7.2: maps of all kinds of numbers, canonical and not, with one Vec in several places.
func TestDetAndInverseOfKinds(t *testing.T) {
	for _, m := range upright() {
		if areDetAndInverse(t, m) == 0 {
			t.Errorf("Det 0: %v", m)
		}
		areDetAndInverse(t, looseMap(m))
		areDetAndInverse(t, api.Map{X: m.X, Y: m.Y, Z: m.Z, Move: m.X})
		areDetAndInverse(t, api.Map{X: m.X, Y: m.X, Z: m.Z, Move: m.X})
		for _, p := range places() {
			areDetAndInverse(t, api.Map{X: m.X, Y: p, Z: m.Z, Move: p})
			areDetAndInverse(t, api.Map{X: p, Y: m.Y, Z: m.X, Move: m.Move})
		}
	}
}

// P7.2: any maps, numbers of one limb and of many, with each sign of Det.
func TestDetAndInverseOfAnyMaps(t *testing.T) {
	r := source(5)
	var signs [3]int
	for range 2500 {
		signs[1+areDetAndInverse(t, anyMap(r, 1+r.IntN(6)))]++
	}
	if signs[0] < 300 || signs[1] < 300 || signs[2] < 300 {
		t.Errorf("Det below 0, 0 and above 0: %v", signs)
	}
}

// P7.2: either way round Then of a map and its Inverse is Identity; the inverse's inverse is the map.
func TestInverseTakesBack(t *testing.T) {
	r := source(6)
	maps := upright()
	for range 600 {
		maps = append(maps, anyMap(r, 2+r.IntN(4)))
	}
	found := 0
	for _, m := range maps {
		back, ok := Inverse(m)
		if !ok {
			continue
		}
		found++
		isMap(t, Then(m, back), standing(), m)
		isMap(t, Then(back, m), standing(), m)
		isInverse(t, back, mapOf(rowsOf(m), valuesOf(m.Move)))
		p := point(r, 2)
		isVec(t, Apply(back, Apply(m, p)), vecOf(valuesOf(p)), m, p)
		isVec(t, Turn(m, Turn(back, p)), vecOf(valuesOf(p)), m, p)
	}
	if found < 200 {
		t.Errorf("with an inverse: %d", found)
	}
}
