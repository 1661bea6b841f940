package boxes

import (
	"math/big"
	"slices"
	"testing"

	"penumbra/api"
)

// outermost answers the least, or the greatest, of the numbers at each place, by another reckoner that sorts them; 0 0 0 of none.
func outermost(l []api.Vec, isLeast bool) api.Vec {
	out := values{new(big.Rat), new(big.Rat), new(big.Rat)}
	for place := range out {
		var all []*big.Rat
		for _, v := range l {
			all = append(all, valuesOf(v)[place])
		}
		slices.SortFunc(all, (*big.Rat).Cmp)
		switch {
		case len(all) == 0:
		case isLeast:
			out[place] = all[0]
		default:
			out[place] = all[len(all)-1]
		}
	}
	return vecOf(out)
}

// joined answers what Join should.
func joined(l []api.Box) api.Box {
	var los, his []api.Vec
	for _, b := range l {
		los, his = append(los, b.Lo), append(his, b.Hi)
	}
	return api.Box{Lo: outermost(los, true), Hi: outermost(his, false)}
}

func isAround(t *testing.T, l []api.Vec) {
	t.Helper()
	isBox(t, Around(l...), api.Box{Lo: outermost(l, true), Hi: outermost(l, false)}, "Around", l)
}

func isJoin(t *testing.T, l []api.Box) {
	t.Helper()
	isBox(t, Join(l...), joined(l), "Join", l)
}

func wordsOf(texts ...string) []api.Vec {
	var l []api.Vec
	for _, text := range texts {
		l = append(l, words(text))
	}
	return l
}

// P10.1: of no points 0 0 0, both.
func TestAroundNothing(t *testing.T) {
	want := boxWords("0 0 0", "0 0 0")
	isBox(t, Around(), want)
	isBox(t, Around([]api.Vec(nil)...), want)
	isBox(t, Around([]api.Vec{}...), want)
	isBox(t, Around(slices.Repeat([]api.Vec{words("1 2 3")}, 4)[:0]...), want)
}

// P10.1: the box around one point is that point, both; 0 0 0 is no part of it.
func TestAroundOnePoint(t *testing.T) {
	for _, p := range places() {
		isBox(t, Around(p), api.Box{Lo: p, Hi: p}, p)
		isBox(t, Around(p, p, p), api.Box{Lo: p, Hi: p}, p)
		for _, q := range vecWritings(p) {
			isBox(t, Around(q), api.Box{Lo: p, Hi: p}, q)
			isBox(t, Around(p, q), api.Box{Lo: p, Hi: p}, q)
			isBox(t, Around(q, p), api.Box{Lo: p, Hi: p}, q)
		}
	}
}

// P10.1: points that are outermost in one number each, crosswise, the outermost of them at each place of the list.
func TestAroundNamedPoints(t *testing.T) {
	for _, c := range []struct {
		lo, hi string
		points []string
	}{
		{"1 4 0", "3 5 2", []string{"1 5 2", "3 4 0"}},
		{"1 4 0", "3 5 2", []string{"1 4 2", "3 5 0"}},
		{"1 4 0", "3 5 2", []string{"1 5 0", "3 4 2"}},
		{"1 2 3", "4 5 6", []string{"1 2 3", "4 5 6"}},
		{"-3 -2 -1", "-1 -2/3 -1/2", []string{"-1 -2 -1/2", "-3 -2/3 -1"}},
		{"1 1 1", "9 9 9", []string{"1 5 5", "5 1 5", "5 5 1", "9 5 5", "5 9 5", "5 5 9"}},
		{"1 2 3", "9 2 3", []string{"5 2 3", "1 2 3", "9 2 3", "6 2 3"}},
		{"1 2 3", "1 9 3", []string{"1 5 3", "1 2 3", "1 9 3", "1 6 3"}},
		{"1 2 3", "1 2 9", []string{"1 2 5", "1 2 3", "1 2 9", "1 2 6"}},
		{"1/3 -1/2 0", "1/2 -1/3 0", []string{"1/3 -1/3 0", "1/2 -1/2 0"}},
		{"-1 1/2 -5/3", "0 1 2", []string{"0 1 2", "-1 1/2 -5/3", "-1/2 3/4 1"}},
	} {
		l, want := wordsOf(c.points...), boxWords(c.lo, c.hi)
		for range l {
			// Each point is once the first one, and once the last one.
			l = append(l[1:], l[0])
			isBox(t, Around(l...), want, l)
			back := slices.Clone(l)
			slices.Reverse(back)
			isBox(t, Around(back...), want, back)
		}
		for i := range l {
			l[i] = loose(l[i])
		}
		isBox(t, Around(l...), want, l)
	}
}

// P10.1: numbers that differ by little, or are of many limbs.
func TestAroundPointsThatDifferByLittle(t *testing.T) {
	for _, k := range kinds() {
		more := ratOf(plus(valueOf(k), tiny()))
		p, q := api.Vec{X: k, Y: more, Z: k}, api.Vec{X: more, Y: k, Z: more}
		want := api.Box{Lo: api.Vec{X: k, Y: k, Z: k}, Hi: api.Vec{X: more, Y: more, Z: more}}
		isBox(t, Around(p, q), want)
		isBox(t, Around(q, p), want)
		isBox(t, Around(loose(q), loose(p), q, p), want)
	}
}

// P10.1: points of all kinds, as many as one likes.
func TestAroundManyPoints(t *testing.T) {
	all, r := places(), source(1)
	isAround(t, all)
	for i, p := range all {
		for _, q := range all {
			isAround(t, []api.Vec{p, q})
		}
		isAround(t, all[i:])
	}
	for i := range 2000 {
		isAround(t, anyPoints(r, i%9))
	}
	isAround(t, anyPoints(r, 3000))
}

// P10.1: of no boxes 0 0 0, both.
func TestJoinOfNothing(t *testing.T) {
	want := boxWords("0 0 0", "0 0 0")
	isBox(t, Join(), want)
	isBox(t, Join([]api.Box(nil)...), want)
	isBox(t, Join([]api.Box{}...), want)
	isBox(t, Join(slices.Repeat([]api.Box{cube()}, 4)[:0]...), want)
}

// P10.1: one box is itself, also where its Lo is above its Hi.
func TestJoinOfOneBox(t *testing.T) {
	for _, b := range slices.Concat(full(), void()) {
		want := api.Box{Lo: vecOf(valuesOf(b.Lo)), Hi: vecOf(valuesOf(b.Hi))}
		isBox(t, Join(b), want, b)
		isBox(t, Join(b, b, b), want, b)
		for _, other := range boxWritings(b) {
			isBox(t, Join(other), want, other)
			isBox(t, Join(b, other), want, other)
			isBox(t, Join(other, b), want, other)
		}
	}
}

// P10.1: the least of all Los, the greatest of all His, number by number; also of boxes that hold nothing.
func TestJoinOfNamedBoxes(t *testing.T) {
	for _, c := range []struct {
		want  api.Box
		boxes []api.Box
	}{
		{boxWords("0 0 0", "5 6 7"), []api.Box{cube(), boxWords("1 2 3", "5 6 7")}},
		{boxWords("-1 0 -3", "1 6 1"), []api.Box{cube(), boxWords("-1 2 -3", "0 6 -2")}},
		{boxWords("0 0 0", "1 1 1"), []api.Box{cube(), boxWords("1/3 1/3 1/3", "2/3 2/3 2/3")}},
		{boxWords("-9 -8 -7", "-1 -2 -3"), []api.Box{boxWords("-9 -5 -7", "-5 -2 -5"), boxWords("-5 -8 -6", "-1 -6 -3")}},
		{boxWords("2 0 0", "1 1 1"), []api.Box{boxWords("2 0 0", "1 1 1"), boxWords("3 1/2 1", "-1 1/2 -4")}},
		{boxWords("2 2 2", "1 1 1"), []api.Box{boxWords("5 2 4", "0 1 -3"), boxWords("2 4 2", "1 -1 1")}},
		{boxWords("2 -1 2", "1 3 1"), []api.Box{boxWords("5 2 4", "0 1 -3"), boxWords("2 4 2", "1 -1 1"), boxWords("7 -1 7", "-7 3 -7")}},
		{boxWords("0 0 0", "9 9 9"), []api.Box{cube(), boxWords("10 10 10", "9 9 9")}},
		{boxWords("-9 -9 -9", "1 1 1"), []api.Box{cube(), boxWords("-9 -9 -9", "-10 -10 -10")}},
		{boxWords("1 1 1", "9 9 9"), []api.Box{
			boxWords("1 5 5", "6 6 6"), boxWords("5 1 5", "6 6 6"), boxWords("5 5 1", "6 6 6"), boxWords("5 5 5", "9 6 6"), boxWords("5 5 5", "6 9 6"), boxWords("5 5 5", "6 6 9"),
		}},
	} {
		l := c.boxes
		for range l {
			l = append(slices.Clone(l[1:]), l[0])
			isBox(t, Join(l...), c.want, l)
			back := slices.Clone(l)
			slices.Reverse(back)
			isBox(t, Join(back...), c.want, back)
		}
		for i := range l {
			l[i] = looseBox(l[i])
		}
		isBox(t, Join(l...), c.want, l)
	}
}

// P10.1: boxes of all kinds, as many as one likes.
func TestJoinOfManyBoxes(t *testing.T) {
	all, r := slices.Concat(full(), void()), source(2)
	isJoin(t, all)
	isJoin(t, void())
	for i, b := range all {
		for _, c := range all {
			isJoin(t, []api.Box{b, c})
		}
		isJoin(t, all[i:])
	}
	for i := range 1500 {
		isJoin(t, anyBoxes(r, i%9))
	}
	isJoin(t, anyBoxes(r, 2000))
}
