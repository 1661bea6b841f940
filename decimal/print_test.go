package decimal

import (
	"math/big"
	"testing"

	"penumbra/api"
)

// P4.2
func TestNaturalOfNamedNaturals(t *testing.T) {
	for _, test := range []struct {
		a    []uint32
		want string
	}{
		{nil, "0"}, {list(), "0"}, {list(0), "0"}, {list(0, 0, 0), "0"}, {run(1000, 0), "0"},
		{list(1), "1"}, {list(9), "9"}, {list(10), "10"}, {list(12, 0), "12"}, {list(700, 0, 0), "700"}, {list(999999999), "999999999"}, {list(1000000000), "1000000000"}, {list(1000000001, 0), "1000000001"},
		{list(top), "4294967295"}, {list(0, 1), "4294967296"}, {list(top, top), "18446744073709551615"}, {list(0, 0, 1), "18446744073709551616"}, {list(0, 0, 1, 0, 0), "18446744073709551616"},
		{list(0xa7640000, 0x0de0b6b3), "1000000000000000000"}, {list(0xa763ffff, 0x0de0b6b3), "999999999999999999"},
	} {
		isText(t, test.a, Natural(test.a), test.want)
	}
}

// P4.2: powers of ten and the naturals beside them, up to many digits: noughts inside a part stay, noughts ahead go.
func TestNaturalOfPowersOfTen(t *testing.T) {
	for n := range 1200 {
		power := powerOfTen(n)
		for more := range 3 {
			near := new(big.Int).Add(power, big.NewInt(int64(more-1)))
			isText(t, near.BitLen(), Natural(limbsOf(near)), near.String())
			isText(t, near.BitLen(), Natural(append(limbsOf(near), 0, 0)), near.String())
		}
	}
}

// P4.2: powers of two and the naturals below them.
func TestNaturalOfPowersOfTwo(t *testing.T) {
	for n := range 4000 {
		power := new(big.Int).Lsh(big.NewInt(1), uint(n))
		isText(t, n, Natural(limbsOf(power)), power.String())
		power.Sub(power, big.NewInt(1))
		isText(t, n, Natural(limbsOf(power)), power.String())
	}
}

// P4.2
func TestNaturalOfManyNaturals(t *testing.T) {
	r := source(4)
	for range 20000 {
		a := natural(r, 1+r.IntN(30))
		isText(t, a, Natural(a), bigOf(a).String())
	}
	for _, n := range []int{500, 1023, 1024, 1025, 3000, 6000} {
		a := run(n, top)
		isText(t, n, Natural(a), bigOf(a).String())
		for i := range a {
			a[i] = r.Uint32()
		}
		isText(t, n, Natural(a), bigOf(a).String())
	}
}

// P4.2
func TestPrintOfNamedNumbers(t *testing.T) {
	for _, test := range []struct {
		a    api.Rat
		want string
	}{
		{above(list(12), list(1)), "12"}, {below(list(12), list(1)), "-12"}, {above(list(1), list(8)), "1/8"}, {below(list(1), list(8)), "-1/8"}, {above(list(3), list(2)), "3/2"}, {above(list(1), list(1)), "1"},
		{above(list(0, 0, 1), list(1)), "18446744073709551616"}, {below(list(1), list(0, 0, 1)), "-1/18446744073709551616"}, {above(list(10), list(1000000001)), "10/1000000001"},
		// not canonical
		{above(list(7), list(14)), "1/2"}, {below(list(12, 0), list(4, 0, 0)), "-3"}, {above(list(6), list(6)), "1"}, {below(list(0, 5), list(0, 15)), "-1/3"}, {above(list(2, 0), list(0, 2)), "1/4294967296"}, {below(list(0, 6), list(6)), "-4294967296"},
		// 0
		{none(), "0"}, {api.Rat{}, "0"}, {api.Rat{Neg: true}, "0"}, {below(nil, list(1)), "0"}, {below(list(0, 0), list(1)), "0"}, {above(nil, list(7)), "0"}, {below(list(0), list(7, 0)), "0"},
		{above(list(5), nil), "0"}, {below(list(5), nil), "0"}, {below(list(5), list()), "0"}, {below(list(5), list(0)), "0"}, {above(list(5, 6), list(0, 0, 0)), "0"}, {below(list(), list()), "0"},
	} {
		isText(t, test.a, Print(test.a), test.want)
	}
}

// printed says what Print must answer, by another reckoner.
func printed(a api.Rat) string { return bigValue(a).RatString() }

// P4.2, P4.3: Parse of Print is the number.
func TestPrintOfManyNumbers(t *testing.T) {
	r := source(5)
	for range 10000 {
		a := number(r, 1+r.IntN(12))
		isText(t, a, Print(a), printed(a))
		isParsed(t, Print(a), ratOf(bigValue(a)))
	}
	for _, n := range []int{300, 1000} {
		a := below(run(n, top), append(run(n, 0), 3))
		isText(t, n, Print(a), printed(a))
		isParsed(t, Print(a), ratOf(bigValue(a)))
	}
}

// P4.3: the greatest number whose print is not too long comes back; one more digit is too long.
func TestPrintOfTheLongestNumbers(t *testing.T) {
	nines := new(big.Int).Sub(powerOfTen(api.MaxDigit), big.NewInt(1))
	longest := above(limbsOf(nines), list(1))
	isParsed(t, Print(longest), longest)
	longer := above(limbsOf(powerOfTen(api.MaxDigit)), list(1))
	isText(t, "10^MaxDigit", Print(longer), "1"+noughts(api.MaxDigit))
	isRefused(t, Print(longer), api.ErrNumLong)
	longest.Neg = true
	isRefused(t, Print(longest), api.ErrNumLong)
}

// P4.3: like numbers have like prints, unlike ones unlike ones.
func TestPrintsOfUnlikeNumbers(t *testing.T) {
	r := source(6)
	numbers := map[string]*big.Rat{}
	isUnlike := func(a api.Rat) {
		value := bigValue(a)
		text := Print(a)
		if other, stood := numbers[text]; stood && other.Cmp(value) != 0 {
			t.Errorf("%s: of %v and of %v", text, value, other)
		}
		numbers[text] = value
	}
	for num := range uint32(40) {
		for den := range uint32(40) {
			for _, neg := range []bool{false, true} {
				isUnlike(api.Rat{Neg: neg, Num: list(num), Den: list(den)})
				isUnlike(api.Rat{Neg: neg, Num: list(0, num), Den: list(den, 0)})
			}
		}
	}
	for range 5000 {
		isUnlike(number(r, 2))
	}
	values := map[string]bool{}
	for _, value := range numbers {
		values[value.String()] = true
	}
	if len(values) != len(numbers) {
		t.Errorf("%d prints of %d numbers", len(numbers), len(values))
	}
}

// What Parse says of other writings of a number prints the same.
func TestPrintOfParse(t *testing.T) {
	for text, want := range map[string]string{
		"-12": "-12", "0.125": "1/8", "007/014": "1/2", "-0": "0", "-0.0": "0", "-00/5": "0", "10.50": "21/2", "-3/1": "-3", "1000000000/10": "100000000", "0001000000000000000000": "1000000000000000000",
	} {
		a, e := Parse(text)
		if e != api.OK {
			t.Errorf("Parse %q: %d", text, e)
		}
		isText(t, text, Print(a), want)
	}
}
