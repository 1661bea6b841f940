package rat

import (
	"fmt"
	"math/big"
	"slices"
	"testing"

	"penumbra/api"
)

// numbers makes a list of Rats.
func numbers(n int, next func() api.Rat) []api.Rat {
	l := make([]api.Rat, n)
	for i := range l {
		l[i] = next()
	}
	return l
}

func sumOf(l []api.Rat) *big.Rat {
	sum := new(big.Rat)
	for _, r := range l {
		sum.Add(sum, valueOf(r))
	}
	return sum
}

func productOf(l []api.Rat) *big.Rat {
	product := big.NewRat(1, 1)
	for _, r := range l {
		product.Mul(product, valueOf(r))
	}
	return product
}

// P3.2: the document's examples; none, one, two and more numbers.
func TestSumOfNamedNumbers(t *testing.T) {
	isJust(t, "Sum of none", Sum(), above(nil, list(1)))
	isJust(t, "Sum of no list", Sum([]api.Rat(nil)...), above(nil, list(1)))
	isJust(t, "Sum of an empty list", Sum([]api.Rat{}...), above(nil, list(1)))
	isJust(t, "1/2 + 1/3", Sum(Of(1, 2), Of(1, 3)), above(list(5), list(6)))
	isJust(t, "4/6", Sum(above(list(4, 0), list(6))), above(list(2), list(3)))
	isJust(t, "-4/6", Sum(below(list(4, 0), list(6))), below(list(2), list(3)))
	isJust(t, "1/6 + 1/3", Sum(Of(1, 6), Of(1, 3)), above(list(1), list(2)))
	isJust(t, "1/4 + 1/4", Sum(Of(1, 4), Of(1, 4)), above(list(1), list(2)))
	isJust(t, "1/2 - 1/2", Sum(Of(1, 2), Of(-1, 2)), above(nil, list(1)))
	isJust(t, "-1/2 + 2/4", Sum(Of(-1, 2), small(2, 4)), above(nil, list(1)))
	isJust(t, "1/2 - 1/2 - 1/3", Sum(Of(1, 2), Of(-1, 2), Of(-1, 3)), below(list(1), list(3)))
	isJust(t, "1/2 - 3/2", Sum(Of(1, 2), Of(-3, 2)), below(list(1), list(1)))
	isJust(t, "-1/3 + 1/2", Sum(Of(-1, 3), Of(1, 2)), above(list(1), list(6)))
	isJust(t, "-1/2 + 1/3", Sum(Of(-1, 2), Of(1, 3)), below(list(1), list(6)))
	isJust(t, "-1/2 - 1/3", Sum(Of(-1, 2), Of(-1, 3)), below(list(5), list(6)))
	isJust(t, "2^32 - 1 + 1", Sum(above(list(top), list(1)), Of(1, 1)), above(list(0, 1), list(1)))
	isJust(t, "1 + 2 + .. + 100", Sum(numbers(100, counter())...), above(list(5050), list(1)))
}

// counter answers 1, 2, 3 and so on.
func counter() func() api.Rat {
	n := 0
	return func() api.Rat {
		n++
		return Of(n, 1)
	}
}

// P3.2: what is read as 0 adds nothing, wherever it stands, also if its Den is 0.
func TestSumWithZeros(t *testing.T) {
	a := below(list(6, 6), list(4))
	want := below(list(3, 3), list(2))
	for _, zero := range zeros() {
		for _, l := range [][]api.Rat{{zero, a}, {a, zero}, {zero, zero, a}, {zero, a, zero}, {a, zero, zero}, {zero, zero, zero, a, zero, zero}} {
			isJust(t, "Sum "+text(l...), Sum(l...), want)
		}
		isJust(t, "Sum of 0", Sum(zero), above(nil, list(1)))
		isJust(t, "Sum of 0 and 0", Sum(zero, zero), above(nil, list(1)))
		isJust(t, "Sum of many 0", Sum(slices.Repeat([]api.Rat{zero}, 9)...), above(nil, list(1)))
	}
}

// P3.2: the document's example; none, one, two and more numbers.
func TestProductOfNamedNumbers(t *testing.T) {
	isJust(t, "Product of none", Product(), above(list(1), list(1)))
	isJust(t, "Product of no list", Product([]api.Rat(nil)...), above(list(1), list(1)))
	isJust(t, "Product of an empty list", Product([]api.Rat{}...), above(list(1), list(1)))
	isJust(t, "4/6", Product(above(list(4, 0), list(6))), above(list(2), list(3)))
	isJust(t, "-4/6", Product(below(list(4, 0), list(6))), below(list(2), list(3)))
	isJust(t, "2/3 * 3/4", Product(Of(2, 3), Of(3, 4)), above(list(1), list(2)))
	isJust(t, "-2/3 * 3/2", Product(Of(-2, 3), Of(3, 2)), below(list(1), list(1)))
	isJust(t, "2/3 * -5", Product(Of(2, 3), Of(-5, 1)), below(list(10), list(3)))
	isJust(t, "-2/3 * -5", Product(Of(-2, 3), Of(-5, 1)), above(list(10), list(3)))
	isJust(t, "(-1)^7", Product(slices.Repeat([]api.Rat{Of(-1, 1)}, 7)...), below(list(1), list(1)))
	isJust(t, "(-1)^8", Product(slices.Repeat([]api.Rat{Of(-1, 1)}, 8)...), above(list(1), list(1)))
	isJust(t, "2^320", Product(slices.Repeat([]api.Rat{Of(2, 1)}, 320)...), above(append(run(10, 0), 1), list(1)))
	isJust(t, "2^-320", Product(slices.Repeat([]api.Rat{small(1, 2)}, 320)...), above(list(1), append(run(10, 0), 1)))
}

// P3.2: what is read as 0 makes all of a product 0, wherever it stands, also if its Den is 0.
func TestProductWithZeros(t *testing.T) {
	a := below(list(6, 6), list(4))
	for _, zero := range zeros() {
		for _, l := range [][]api.Rat{{zero}, {zero, zero}, {zero, a}, {a, zero}, {zero, a, a}, {a, zero, a}, {a, a, a, zero}} {
			isJust(t, "Product "+text(l...), Product(l...), above(nil, list(1)))
		}
	}
}

// P3.2: as many numbers as one likes, of all kinds.
func TestSumsAndProductsOfManyNumbers(t *testing.T) {
	r := source(7)
	for range 4000 {
		most := 1 + r.IntN(6)
		l := numbers(r.IntN(10), func() api.Rat { return number(r, most) })
		isValue(t, "Sum "+text(l...), Sum(l...), sumOf(l))
		isValue(t, "Product "+text(l...), Product(l...), productOf(l))
	}
}

// P3.2: sums of numbers whose denominators are the same, or share much.
func TestSumsOfSharedDenominators(t *testing.T) {
	r := source(8)
	for range 2000 {
		den := append(natural(r, 5), 1+r.Uint32N(9))
		l := numbers(r.IntN(9), func() api.Rat {
			factor := big.NewInt(1 + r.Int64N(4))
			return api.Rat{Neg: r.IntN(2) == 0, Num: natural(r, 5), Den: limbsOf(factor.Mul(factor, bigOf(den)))}
		})
		isValue(t, "Sum "+text(l...), Sum(l...), sumOf(l))
	}
}

// P3.2 and P1: long lists; one whose numbers cancel, and one whose denominator grows and grows.
func TestLongSumsAndProducts(t *testing.T) {
	harmonic, falling := make([]api.Rat, 3000), make([]api.Rat, 3000)
	for i := range harmonic {
		harmonic[i] = Of(1, i+1)
		falling[i] = Of(-(i + 1), i+2)
	}
	isValue(t, "1 + 1/2 + 1/3 ..", Sum(harmonic...), sumOf(harmonic))
	isJust(t, "-1/2 * -2/3 * -3/4 ..", Product(falling...), Of(1, 3001))
	isJust(t, "1/7, many times", Sum(slices.Repeat([]api.Rat{Of(1, 7)}, 70000)...), Of(10000, 1))
}

// P3.2
func TestNegSubAbsDivOfNamedNumbers(t *testing.T) {
	isJust(t, "Neg 4/6", Neg(small(2, 3)), below(list(2), list(3)))
	isJust(t, "Neg -4/6", Neg(small(-2, 3)), above(list(2), list(3)))
	isJust(t, "Abs 4/6", Abs(small(2, 3)), above(list(2), list(3)))
	isJust(t, "Abs -4/6", Abs(small(-2, 3)), above(list(2), list(3)))
	isJust(t, "1/2 less 1/3", Sub(Of(1, 2), Of(1, 3)), above(list(1), list(6)))
	isJust(t, "1/3 less 1/2", Sub(Of(1, 3), Of(1, 2)), below(list(1), list(6)))
	isJust(t, "1/3 less -1/2", Sub(Of(1, 3), Of(-1, 2)), above(list(5), list(6)))
	isJust(t, "-1/3 less 1/2", Sub(Of(-1, 3), Of(1, 2)), below(list(5), list(6)))
	isJust(t, "1/3 less 2/6", Sub(Of(1, 3), small(2, 6)), above(nil, list(1)))
	isQuotient(t, Of(1, 2), Of(-3, 4), Of(-2, 3))
	isQuotient(t, Of(-1, 2), Of(-1, 2), Of(1, 1))
	isQuotient(t, Of(-5, 1), small(7, 1), Of(-5, 7))
}

func isQuotient(t *testing.T, a, b, want api.Rat) {
	t.Helper()
	got, ok := Div(a, b)
	isJust(t, "Div "+text(a, b), got, want)
	if !ok {
		t.Errorf("Div %v %v: false", a, b)
	}
}

// P3.2 and R2: 0 as either argument; by 0 there is no quotient, however it is written.
func TestNegSubAbsDivOfZeros(t *testing.T) {
	none := above(nil, list(1))
	for _, zero := range zeros() {
		isJust(t, "Neg "+text(zero), Neg(zero), none)
		isJust(t, "Abs "+text(zero), Abs(zero), none)
		isJust(t, "0 less 0", Sub(zero, zero), none)
		for _, a := range []api.Rat{small(-2, 3), small(2, 3), above(run(9, top), list(1))} {
			isJust(t, "a less 0", Sub(a, zero), ratOf(valueOf(a)))
			isJust(t, "0 less a", Sub(zero, a), ratOf(new(big.Rat).Neg(valueOf(a))))
			isQuotient(t, zero, a, none)
			isNoQuotient(t, a, zero)
		}
		for _, other := range zeros() {
			isNoQuotient(t, other, zero)
		}
	}
	isNoQuotient(t, Of(1, 2), Of(0, 5))
}

func isNoQuotient(t *testing.T, a, b api.Rat) {
	t.Helper()
	got, ok := Div(a, b)
	isJust(t, "Div "+text(a, b), got, above(nil, list(1)))
	if ok {
		t.Errorf("Div %v %v: true", a, b)
	}
}

// P3.2
func TestNegSubAbsDivOfManyNumbers(t *testing.T) {
	r := source(9)
	for range 10000 {
		a, b := number(r, 1+r.IntN(8)), number(r, 1+r.IntN(8))
		x, y := valueOf(a), valueOf(b)
		isValue(t, "Neg "+text(a), Neg(a), new(big.Rat).Neg(x))
		isValue(t, "Abs "+text(a), Abs(a), new(big.Rat).Abs(x))
		isValue(t, "Sub "+text(a, b), Sub(a, b), new(big.Rat).Sub(x, y))
		if y.Sign() == 0 {
			isNoQuotient(t, a, b)
		} else {
			isQuotient(t, a, b, ratOf(new(big.Rat).Quo(x, y)))
		}
	}
}

// P3.5: the laws of a field.
func TestLawsOfAField(t *testing.T) {
	r := source(10)
	for range 2000 {
		a, b, c := number(r, 5), number(r, 5), number(r, 5)
		what := text(a, b, c)
		isJust(t, "a + b, b + a: "+what, Sum(a, b), Sum(b, a))
		isJust(t, "a b, b a: "+what, Product(a, b), Product(b, a))
		isJust(t, "(a + b) + c, a + (b + c): "+what, Sum(Sum(a, b), c), Sum(a, Sum(b, c)))
		isJust(t, "a + b + c, c + b + a: "+what, Sum(a, b, c), Sum(c, b, a))
		isJust(t, "a + b + c, (a + b) + c: "+what, Sum(a, b, c), Sum(Sum(a, b), c))
		isJust(t, "(a b) c, a (b c): "+what, Product(Product(a, b), c), Product(a, Product(b, c)))
		isJust(t, "a b c, c b a: "+what, Product(a, b, c), Product(c, b, a))
		isJust(t, "a b c, (a b) c: "+what, Product(a, b, c), Product(Product(a, b), c))
		isJust(t, "a (b + c), a b + a c: "+what, Product(a, Sum(b, c)), Sum(Product(a, b), Product(a, c)))
		isJust(t, "a + 0: "+what, Sum(a, Sum()), Read(a))
		isJust(t, "a 1: "+what, Product(a, Product()), Read(a))
		isJust(t, "a - a: "+what, Sum(a, Neg(a)), Sum())
	}
}

// P3.5: what is added, and what is multiplied by, is taken back.
func TestTakenBack(t *testing.T) {
	r := source(11)
	for range 2000 {
		a, b := number(r, 6), number(r, 6)
		isJust(t, "a + b - b: "+text(a, b), Sub(Sum(a, b), b), Read(a))
		isJust(t, "a - b + b: "+text(a, b), Sum(Sub(a, b), b), Read(a))
		if Sign(b) == 0 {
			continue
		}
		isQuotient(t, Product(a, b), b, Read(a))
		quotient, _ := Div(a, b)
		isJust(t, "(a / b) b: "+text(a, b), Product(quotient, b), Read(a))
	}
}

// P3.5: a sum keeps the order; so does a factor above 0, and one below 0 turns it.
func TestOrderIsKept(t *testing.T) {
	r := source(12)
	for range 3000 {
		a, b, c := number(r, 6), number(r, 6), number(r, 6)
		order := Cmp(a, b)
		if got := Cmp(Sum(a, c), Sum(b, c)); got != order {
			t.Errorf("%v %v, and %v: %d, %d", a, b, c, order, got)
		}
		if got := Cmp(Product(a, c), Product(b, c)); got != order*Sign(c) {
			t.Errorf("%v %v, by %v: %d, %d", a, b, c, order, got)
		}
		if Cmp(b, a) != -order || Same(a, b) != (order == 0) {
			t.Error(fmt.Sprint(a, b, " turned: ", Cmp(b, a), Same(a, b)))
		}
	}
}
