package boxes

import (
	"math/big"
	"slices"
	"testing"

	"penumbra/api"
	"penumbra/rat"
	"penumbra/vec"
)

// isWithin tells whether all that a box holds is held by another one, which its corners tell.
func isWithin(b, other api.Box) bool { return Holds(other, b.Lo) && Holds(other, b.Hi) }

// shrunk answers the box with one of its six sides moved inwards by little.
func shrunk(b api.Box, side int) api.Box {
	numbers := []*api.Rat{&b.Lo.X, &b.Lo.Y, &b.Lo.Z, &b.Hi.X, &b.Hi.Y, &b.Hi.Z}
	*numbers[side] = ratOf(beyond(valueOf(*numbers[side]), side < 3))
	return b
}

// P10.3: the box around points holds them all, and none that is less does.
func TestAroundHoldsItsPointsAndNoMore(t *testing.T) {
	r := source(11)
	for i := range 600 {
		l := anyPoints(r, 1+i%7)
		b := Around(l...)
		for _, p := range l {
			isHolding(t, b, p, true)
		}
		for side := range 6 {
			less := shrunk(b, side)
			if !slices.ContainsFunc(l, func(p api.Vec) bool { return !Holds(less, p) }) {
				t.Errorf("side %d of %v can be moved: %v", side, b, l)
			}
		}
	}
}

// P10.3: what holds all points holds all of the box around them; what does not hold them all does not hold all of it.
func TestAroundLiesWithinWhatHoldsItsPoints(t *testing.T) {
	r, counts := source(12), [2]int{}
	for i := range 3000 {
		l := make([]api.Vec, 1+i%4)
		for j := range l {
			l[j] = near(r)
		}
		b := sorted(vec.Sub(near(r), vec.Of(2, 2, 2)), vec.Sum(near(r), vec.Of(2, 2, 2)))
		holdsAll := !slices.ContainsFunc(l, func(p api.Vec) bool { return !Holds(b, p) })
		if isWithin(Around(l...), b) != holdsAll {
			t.Errorf("%v, and the box around %v", b, l)
		}
		if holdsAll {
			counts[1]++
		} else {
			counts[0]++
		}
	}
	if counts[0] < 300 || counts[1] < 300 {
		t.Errorf("too few of each: %v", counts)
	}
}

// P10.3: the box around points is the join of those around some and around the others.
func TestAroundOfParts(t *testing.T) {
	r := source(13)
	for range 800 {
		first, second := anyPoints(r, 1+r.IntN(4)), anyPoints(r, 1+r.IntN(4))
		whole := Around(append(slices.Clone(first), second...)...)
		isBox(t, Join(Around(first...), Around(second...)), whole, first, second)
		isBox(t, Join(Around(second...), Around(first...)), whole, first, second)
		isBox(t, Around(whole.Lo, whole.Hi), whole, first, second)
		isBox(t, Join(whole, Around(first...)), whole, first, second)
	}
}

// P10.3: what one of the boxes holds their join holds too, beside boxes that hold nothing.
func TestJoinHoldsWhatItsBoxesHold(t *testing.T) {
	r, count := source(14), 0
	for i := range 1500 {
		l := anyBoxes(r, 1+i%5)
		b := Join(l...)
		for _, c := range l {
			for _, p := range []api.Vec{c.Lo, c.Hi, anyPoint(r)} {
				if Holds(c, p) {
					count++
					isHolding(t, b, p, true)
				}
			}
			if !isNothing(c) && !isWithin(c, b) {
				t.Errorf("%v is not within the join %v", c, b)
			}
		}
	}
	if count < 1000 {
		t.Errorf("only %d points are held", count)
	}
}

// P10.3: Join holds what its boxes hold, at all of their sides.
func TestJoinHoldsTheGridsOfItsBoxes(t *testing.T) {
	all := slices.Concat(full(), void())
	for i, b := range full() {
		for j, c := range all {
			joined := Join(b, c)
			for _, p := range grid(b) {
				if isHeld(b, p) && (i+j)%3 == 0 {
					isHolding(t, joined, vecOf(p), true)
				}
			}
		}
	}
}

// P10.3: joins of joins are joins; in any order, each box as often as one likes.
func TestJoinOfJoins(t *testing.T) {
	r := source(15)
	for range 800 {
		first, second := anyBoxes(r, 1+r.IntN(4)), anyBoxes(r, 1+r.IntN(4))
		whole := Join(append(slices.Clone(first), second...)...)
		isBox(t, Join(Join(first...), Join(second...)), whole, first, second)
		isBox(t, Join(append(slices.Clone(second), first...)...), whole, first, second)
		isBox(t, Join(slices.Concat(first, second, first)...), whole, first, second)
	}
}

// at answers the point s times d from o on.
func at(o, d api.Vec, s *big.Rat) api.Vec { return vecOf(atOf(o, d, s)) }

// shares are parts of the way from 0 to 1.
func shares() []*big.Rat {
	return []*big.Rat{new(big.Rat), tiny(), big.NewRat(1, 3), big.NewRat(1, 2), big.NewRat(9, 10), minus(big.NewRat(1, 1), tiny()), big.NewRat(1, 1)}
}

// isAllWithin holds a span against what the box holds: all between its ends, nothing before and behind.
func isAllWithin(t *testing.T, l ray, b api.Box, span api.Span) {
	t.Helper()
	from, to := valueOf(span.From), valueOf(span.To)
	for _, share := range shares() {
		if span.Open {
			isHolding(t, b, at(l.o, l.d, over(share, tiny())), true)
			continue
		}
		isHolding(t, b, at(l.o, l.d, plus(from, times(share, minus(to, from)))), true)
		if share.Sign() > 0 {
			isHolding(t, b, at(l.o, l.d, plus(to, share)), false)
			isHolding(t, b, at(l.o, l.d, plus(to, over(big.NewRat(1, 1), share))), false)
		}
		if before := minus(from, times(share, from)); before.Cmp(from) < 0 {
			isHolding(t, b, at(l.o, l.d, before), false)
		}
	}
}

// P10.3 and P10.2: between two places of a span all of the ray is within; before it and behind it nothing is.
func TestSpansHoldAllAndNoMore(t *testing.T) {
	r, spans := source(16), 0
	for i, b := range append(full(), anyBoxes(r, 40)...) {
		for _, l := range raysTo(b, uint64(100+i), 40) {
			span, ok := Clip(l.o, l.d, b)
			if ok {
				spans++
				isAllWithin(t, l, b, span)
				continue
			}
			for _, share := range shares() {
				isHolding(t, b, at(l.o, l.d, share), false)
				isHolding(t, b, at(l.o, l.d, times(big.NewRat(9, 1), share)), false)
			}
		}
	}
	if spans < 700 {
		t.Errorf("only %d spans", spans)
	}
}

// P10.3: a ray that leads through a point of the box, ahead, has a span, in which the point is.
func TestSpansHoldThePointsThatRaysLeadTo(t *testing.T) {
	r := source(17)
	for _, b := range full() {
		for _, p := range grid(b) {
			o, k := anyPoint(r), big.NewRat(1+r.Int64N(5), 1+r.Int64N(5))
			d := vecOf(scaled(k, valuesOf(way(o, vecOf(p)))))
			span, ok := Clip(o, d, b)
			s := ratOf(over(big.NewRat(1, 1), k))
			isThere := ok && rat.Cmp(span.From, s) <= 0 && (span.Open || rat.Cmp(s, span.To) <= 0)
			if isThere != isHeld(b, p) {
				t.Errorf("%v from %v along %v: %v, %v", b, o, d, span, ok)
			}
		}
	}
}

// P10.2: along a direction k times as long spans are as many times as short; with a k below 0 they lie behind.
func TestSpansAlongLongerDirections(t *testing.T) {
	r := source(18)
	for i, b := range append(append(full(), void()...), anyBoxes(r, 20)...) {
		for _, l := range raysTo(b, uint64(200+i), 24) {
			span, ok := Clip(l.o, l.d, b)
			for _, k := range kinds() {
				if rat.Sign(k) <= 0 {
					isRight(t, l.o, vec.Scale(k, l.d), b)
					continue
				}
				from, _ := rat.Div(span.From, k)
				to, _ := rat.Div(span.To, k)
				isSpan(t, l.o, vec.Scale(k, l.d), b, api.Span{From: from, To: to, Open: span.Open}, ok)
			}
		}
	}
}

// P10.2: a ray that is moved along with the box has the same span.
func TestSpansOfMovedBoxes(t *testing.T) {
	for i, b := range append(full(), void()...) {
		for j, l := range raysTo(b, uint64(300+i), 24) {
			p := places()[(7*i+j)%50]
			span, ok := Clip(l.o, l.d, b)
			isSpan(t, vec.Sum(l.o, p), l.d, api.Box{Lo: vec.Sum(b.Lo, p), Hi: vec.Sum(b.Hi, p)}, span, ok)
		}
	}
}

// P10.2: what begins farther on has the rest of the span.
func TestSpansFromFartherOn(t *testing.T) {
	for i, b := range full() {
		for _, l := range raysTo(b, uint64(400+i), 24) {
			span, ok := Clip(l.o, l.d, b)
			if !ok || span.Open {
				continue
			}
			from, to := valueOf(span.From), valueOf(span.To)
			for _, share := range shares() {
				s := times(share, to)
				want := minus(from, s)
				if want.Sign() < 0 {
					want = new(big.Rat)
				}
				isFromTo(t, at(l.o, l.d, s), l.d, b, ratOf(want), ratOf(minus(to, s)))
			}
			isMissed(t, at(l.o, l.d, plus(to, tiny())), l.d, b)
		}
	}
}

// P10.2 and P10.3: a box within another one has a span within that of the other.
func TestSpansOfJoinedBoxes(t *testing.T) {
	r := source(19)
	for i, b := range full() {
		for _, l := range raysTo(b, uint64(500+i), 30) {
			joined := Join(b, anyBox(r))
			span, ok := Clip(l.o, l.d, b)
			if !ok {
				continue
			}
			outer, isFound := Clip(l.o, l.d, joined)
			isAhead := rat.Cmp(outer.From, span.From) <= 0 && (outer.Open || !span.Open && rat.Cmp(span.To, outer.To) <= 0)
			if !isFound || !isAhead {
				t.Errorf("%v has %v, but %v has %v, %v", b, span, joined, outer, isFound)
			}
		}
	}
}
