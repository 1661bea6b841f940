package boxes

import (
	"math/big"
	"slices"
	"testing"

	"penumbra/api"
)

// ray is where a ray begins, and its direction.
type ray struct{ o, d api.Vec }

// edgesOf are all the numbers at which a span can begin or end: 0, and those at which the ray is level with a side.
func edgesOf(o, d api.Vec, b api.Box) []*big.Rat {
	begin, step := valuesOf(o), valuesOf(d)
	all := []*big.Rat{new(big.Rat)}
	for place := range begin {
		for _, side := range []values{valuesOf(b.Lo), valuesOf(b.Hi)} {
			if step[place].Sign() != 0 {
				all = append(all, over(minus(side[place], begin[place]), step[place]))
			}
		}
	}
	return all
}

// spanOf tries each of these numbers, instead of narrowing a span: the least and the greatest at which the box holds the ray.
func spanOf(o, d api.Vec, b api.Box) (api.Span, bool) {
	var all []*big.Rat
	for _, s := range edgesOf(o, d, b) {
		if s.Sign() >= 0 && isHeld(b, atOf(o, d, s)) {
			all = append(all, s)
		}
	}
	slices.SortFunc(all, (*big.Rat).Cmp)
	switch {
	case len(all) == 0:
		return api.Span{From: none(), To: none()}, false
	case dotOf(valuesOf(d)).Sign() == 0:
		return api.Span{From: none(), To: none(), Open: true}, true
	}
	return api.Span{From: ratOf(all[0]), To: ratOf(all[len(all)-1])}, true
}

// dotOf answers the square of the length.
func dotOf(d values) *big.Rat {
	return plus(plus(times(d[0], d[0]), times(d[1], d[1])), times(d[2], d[2]))
}

func isSpan(t *testing.T, o, d api.Vec, b api.Box, want api.Span, isWanted bool) {
	t.Helper()
	got, ok := Clip(o, d, b)
	if ok != isWanted || got.Open != want.Open || !equal(got.From, want.From) || !equal(got.To, want.To) {
		t.Errorf("Clip(%v, %v, %v): got %v, %v, want %v, %v", o, d, b, got, ok, want, isWanted)
	}
}

func isFromTo(t *testing.T, o, d api.Vec, b api.Box, from, to api.Rat) {
	t.Helper()
	isSpan(t, o, d, b, api.Span{From: from, To: to}, true)
}

func isOpen(t *testing.T, o, d api.Vec, b api.Box) {
	t.Helper()
	isSpan(t, o, d, b, api.Span{From: none(), To: none(), Open: true}, true)
}

func isMissed(t *testing.T, o, d api.Vec, b api.Box) {
	t.Helper()
	isSpan(t, o, d, b, api.Span{From: none(), To: none()}, false)
}

// isRight holds against what the other reckoner tells, and answers whether there is a span.
func isRight(t *testing.T, o, d api.Vec, b api.Box) bool {
	t.Helper()
	want, ok := spanOf(o, d, b)
	isSpan(t, o, d, b, want, ok)
	return ok
}

// P10.2: rays from within, from without, behind, along sides, through edges and corners.
func TestClipOfNamedRays(t *testing.T) {
	for _, c := range []struct{ o, d, from, to string }{
		// Through the box, along each number, both ways.
		{"-1 1/2 1/2", "2 0 0", "1/2", "1"},
		{"1/2 -1 1/2", "0 2 0", "1/2", "1"},
		{"1/2 1/2 -1", "0 0 2", "1/2", "1"},
		{"3 1/2 1/2", "-4 0 0", "1/2", "3/4"},
		{"1/2 3 1/2", "0 -4 0", "1/2", "3/4"},
		{"1/2 1/2 3", "0 0 -4", "1/2", "3/4"},
		{"-1 -1 -1", "1 1 1", "1", "2"},
		{"2 2 2", "-1/2 -1/2 -1/2", "2", "4"},
		{"-1 -1 1/2", "3 2 0", "1/2", "2/3"},
		{"2 -1 -1", "-1 1 1", "1", "2"},
		// From within, and from a side.
		{"1/2 1/2 1/2", "1 0 0", "0", "1/2"},
		{"1/2 1/2 1/2", "-3 0 0", "0", "1/6"},
		{"1/2 1/4 1/8", "1 1 1", "0", "1/2"},
		{"1/2 1/4 1/8", "-1 -1 -1", "0", "1/8"},
		{"0 1/2 1/2", "1 0 0", "0", "1"},
		{"1 1/2 1/2", "-1/3 0 0", "0", "3"},
		{"0 0 0", "1 1 1", "0", "1"},
		// Along sides and edges.
		{"0 0 0", "0 1 0", "0", "1"},
		{"0 0 0", "1 0 0", "0", "1"},
		{"0 0 0", "0 0 1", "0", "1"},
		{"-1 0 1/2", "1 0 0", "1", "2"},
		{"-1 1 1/2", "1 0 0", "1", "2"},
		{"1 2 1", "0 -1 0", "1", "2"},
		{"1/2 1 3", "0 0 -2", "1", "3/2"},
		// At a side, an edge or a corner alone: on the way out, and in passing.
		{"1 1/2 1/2", "1 0 0", "0", "0"},
		{"1 1/2 1/2", "1 1 1", "0", "0"},
		{"0 1/2 1/2", "-1 0 0", "0", "0"},
		{"0 0 1/2", "1 -1 0", "0", "0"},
		{"-1 1 1/2", "1 -1 0", "1", "1"},
		{"0 2 1/2", "1/2 -1/2 0", "2", "2"},
		{"2 0 1/2", "-2 2 0", "1/2", "1/2"},
		{"2 1/2 0", "-1 0 1", "1", "1"},
		{"1/2 -1 1", "0 2 -2", "1/2", "1/2"},
		{"-1 -1 1", "1 1 -1", "1", "1"},
		{"2 -1 -1", "-2 2 1", "1", "1"},
		{"1 1 1", "1 1 1", "0", "0"},
		{"0 0 0", "-1 -2 -3", "0", "0"},
	} {
		o, d := words(c.o), words(c.d)
		isFromTo(t, o, d, cube(), word(c.from), word(c.to))
		isFromTo(t, loose(o), loose(d), looseBox(cube()), word(c.from), word(c.to))
	}
}

// P10.2: rays past the box, away from it, and beside it.
func TestClipOfNamedRaysThatMiss(t *testing.T) {
	for _, c := range []struct{ o, d string }{
		// Away: the line does go through the box, behind the ray's beginning.
		{"2 0 0", "1 0 0"}, {"2 1/2 1/2", "1 0 0"}, {"-1 1/2 1/2", "-1 0 0"}, {"1/2 2 1/2", "0 1 0"}, {"1/2 -1 1/2", "0 -3 0"}, {"1/2 1/2 2", "0 0 1"}, {"1/2 1/2 -1", "0 0 -1"},
		{"2 2 2", "1 1 1"}, {"-1 -1 -1", "-1 -1 -1"}, {"101/100 1/2 1/2", "1 0 0"}, {"-1 2 1/2", "-1 1 0"},
		// Past it, in each pair of numbers.
		{"-1 0 1/2", "1 2 0"}, {"2 0 1/2", "-1 -1/2 0"}, {"1/2 -2 0", "0 1 1"}, {"0 1/2 3", "1 0 -1"}, {"-1 -1 4", "1 1 -1"}, {"4 -1 -1", "-1 1 1"}, {"-1 4 -1", "1 -1 1"},
		// Beside it: one number stands still, beyond a side, while the others pass.
		{"-1 -1 1/2", "0 1 0"}, {"2 -1 1/2", "0 1 0"}, {"-1 -1 1/2", "1 0 0"}, {"-1 2 1/2", "1 0 0"}, {"-1 1/2 -1/5", "1 0 0"}, {"-1 1/2 6/5", "1 0 0"},
		{"1/2 1/2 -1/5", "1 1 0"}, {"1/2 6/5 1/2", "1 0 1"}, {"-1/5 1/2 1/2", "0 1 -1"},
	} {
		o, d := words(c.o), words(c.d)
		isMissed(t, o, d, cube())
		isMissed(t, loose(o), loose(d), looseBox(cube()))
	}
}

// P10.2: what passes by little is told apart from what touches, and from what goes through by little.
func TestClipOfRaysThatPassByLittle(t *testing.T) {
	one, less, more := word("1"), ratOf(minus(big.NewRat(1, 1), tiny())), ratOf(plus(big.NewRat(1, 1), tiny()))
	half, back := word("1/2"), word("-1")
	for _, turn := range []func(x, y, z api.Rat) api.Vec{
		func(x, y, z api.Rat) api.Vec { return api.Vec{X: x, Y: y, Z: z} },
		func(x, y, z api.Rat) api.Vec { return api.Vec{X: y, Y: z, Z: x} },
		func(x, y, z api.Rat) api.Vec { return api.Vec{X: z, Y: x, Z: y} },
	} {
		along, across := turn(one, none(), none()), turn(one, one, none())
		isFromTo(t, turn(back, less, half), along, cube(), one, word("2"))
		isFromTo(t, turn(back, one, half), along, cube(), one, word("2"))
		isMissed(t, turn(back, more, half), along, cube())
		// Through the edge between a side of 0 and one of 1, before it, behind it.
		isFromTo(t, turn(back, none(), half), across, cube(), one, one)
		isMissed(t, turn(back, ratOf(tiny()), half), across, cube())
		isFromTo(t, turn(back, ratOf(opposite(tiny())), half), across, cube(), one, more)
		// From a side on outwards, from beyond it, from within.
		isFromTo(t, turn(one, half, half), along, cube(), none(), none())
		isMissed(t, turn(more, half, half), along, cube())
		isFromTo(t, turn(less, half, half), along, cube(), none(), ratOf(tiny()))
	}
}

// P10.2: the direction 0 0 0 stays where it begins: open within, and nothing without.
func TestClipOfRaysThatStand(t *testing.T) {
	for _, b := range full() {
		for i, p := range grid(b) {
			for _, d := range []api.Vec{words("0 0 0"), {}, {X: zeros()[i%15], Y: zeros()[(i+4)%15], Z: zeros()[(i+9)%15]}} {
				if isHeld(b, p) {
					isOpen(t, vecOf(p), d, b)
				} else {
					isMissed(t, vecOf(p), d, b)
				}
			}
		}
	}
}

// P10.2: what stands still in one number, or two, at each place of it: within, on both sides, just beyond.
func TestClipOfRaysThatStandInSomeNumbers(t *testing.T) {
	steps := []api.Vec{words("1 0 0"), words("0 -1/3 0"), words("0 0 2"), words("1 1 0"), words("-1 0 2"), words("0 3/5 -7"), words("2 -3 1/7")}
	for _, b := range full() {
		spans := 0
		for _, p := range grid(b) {
			for _, d := range steps {
				if isRight(t, vecOf(p), d, b) {
					spans++
				}
			}
		}
		if spans < 64*len(steps) {
			t.Errorf("%v: %d spans are too few", b, spans)
		}
	}
}

// P10.2: what holds nothing is met by no ray, whether it is level with all of it or passes.
func TestClipOfBoxesThatHoldNothing(t *testing.T) {
	r := source(4)
	for _, b := range void() {
		for _, p := range grid(b)[:60] {
			for _, d := range []api.Vec{words("0 0 0"), words("1 0 0"), words("0 -1 0"), words("0 0 1"), words("1 1 -1"), words("-2 3 1/2"), near(r)} {
				isMissed(t, vecOf(p), d, b)
			}
		}
		isMissed(t, b.Lo, way(b.Lo, b.Hi), b)
		isMissed(t, b.Hi, way(b.Hi, b.Lo), b)
		isMissed(t, loose(b.Hi), way(b.Hi, b.Lo), looseBox(b))
	}
}

// way answers the direction from p to q.
func way(p, q api.Vec) api.Vec {
	return vecOf(sumOf(valuesOf(q), scaled(big.NewRat(-1, 1), valuesOf(p))))
}

// raysTo are rays of all kinds: towards points of the box and of what is around it, away from them, from them on.
func raysTo(b api.Box, seed uint64, n int) []ray {
	r := source(seed)
	all, at := []ray{{b.Lo, way(b.Lo, b.Hi)}, {b.Hi, way(b.Lo, b.Hi)}, {b.Hi, way(b.Hi, b.Lo)}, {words("1 2 3"), api.Vec{}}}, grid(b)
	for len(all) < n {
		o, p, q := anyPoint(r), vecOf(at[r.IntN(len(at))]), vecOf(at[r.IntN(len(at))])
		k := []*big.Rat{big.NewRat(1, 1), big.NewRat(2, 3), big.NewRat(-1, 1), big.NewRat(5, 1)}[r.IntN(4)]
		all = append(all, ray{o, way(o, p)}, ray{o, vecOf(scaled(k, valuesOf(way(o, p))))}, ray{p, way(p, q)}, ray{p, way(o, p)}, ray{q, near(r)}, ray{o, anyPoint(r)})
	}
	return all
}

// P10.2: rays and boxes of all kinds, held against another reckoner.
func TestClipOfManyRays(t *testing.T) {
	hits, misses := 0, 0
	r := source(5)
	all := append(append(full(), void()...), anyBoxes(r, 60)...)
	for i, b := range all {
		for _, l := range raysTo(b, uint64(50+i), 90) {
			if isRight(t, l.o, l.d, b) {
				hits++
			} else {
				misses++
			}
		}
	}
	if hits < 1500 || misses < 1500 {
		t.Errorf("%d hits and %d misses are too few", hits, misses)
	}
}

// P10.2: the sides of a box are asked one by one: through each pair of sides, from each part of space around it.
func TestClipFromEachPartOfSpace(t *testing.T) {
	b := slanted()
	lo, hi := valuesOf(b.Lo), valuesOf(b.Hi)
	var around []values
	part := func(place, i int) *big.Rat {
		step := []*big.Rat{big.NewRat(-3, 2), new(big.Rat), big.NewRat(1, 2), big.NewRat(1, 1), big.NewRat(9, 4)}[i]
		return plus(lo[place], times(step, minus(hi[place], lo[place])))
	}
	for i := range 125 {
		around = append(around, values{part(0, i/25), part(1, i/5%5), part(2, i%5)})
	}
	for i, p := range around {
		for j, q := range around {
			if (i+j)%3 == 0 {
				isRight(t, vecOf(p), way(vecOf(p), vecOf(q)), b)
			}
		}
	}
}
