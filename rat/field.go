package rat

import (
	"penumbra/api"
	"penumbra/nat"
)

// atOnce is how many numbers are added without a look at common divisors in between: three, as in the dot of two directions.
const atOnce = 3

// Sum answers the sum of all numbers, 0 of none.
func Sum(l ...api.Rat) api.Rat {
	if len(l) > atOnce {
		// Of many numbers both halves are made canonical first, so that denominators which share much do not pile up.
		middle := len(l) / 2
		l = []api.Rat{Sum(l[:middle]...), Sum(l[middle:]...)}
	}
	total := zero()
	for _, r := range l {
		total = plus(total, r)
	}
	return Read(total)
}

// Product answers the product of all numbers, 1 of none.
func Product(l ...api.Rat) api.Rat {
	total := api.Rat{Num: nat.Of(1), Den: nat.Of(1)}
	for _, r := range l {
		// A Den of 0 stays 0: so all of the product is read as 0 then, as it must be.
		total = api.Rat{Neg: total.Neg != r.Neg, Num: nat.Mul(total.Num, r.Num), Den: nat.Mul(total.Den, r.Den)}
	}
	return Read(total)
}

// Sub answers a - b.
func Sub(a, b api.Rat) api.Rat {
	b.Neg = !b.Neg
	return Sum(a, b)
}

// Div answers a / b, and true; 0 and false, if b is 0.
func Div(a, b api.Rat) (api.Rat, bool) {
	if Sign(b) == 0 {
		return zero(), false
	}
	b.Num, b.Den = b.Den, b.Num
	return Product(a, b), true
}

// plus answers a Rat of the sum that is not canonical, and may share memory with a and b.
func plus(a, b api.Rat) api.Rat {
	switch {
	case Sign(a) == 0:
		return b
	case Sign(b) == 0:
		return a
	case nat.Cmp(a.Den, b.Den) == 0:
		neg, num := plusSigned(a.Neg, a.Num, b.Neg, b.Num)
		return api.Rat{Neg: neg, Num: num, Den: a.Den}
	}
	neg, num := plusSigned(a.Neg, nat.Mul(a.Num, b.Den), b.Neg, nat.Mul(b.Num, a.Den))
	return api.Rat{Neg: neg, Num: num, Den: nat.Mul(a.Den, b.Den)}
}

// plusSigned adds two whole numbers, each told by whether it is below 0 and its natural.
func plusSigned(isBelow bool, a []uint32, isOtherBelow bool, b []uint32) (bool, []uint32) {
	if isBelow == isOtherBelow {
		return isBelow, nat.Add(a, b)
	}
	if rest, ok := nat.Sub(a, b); ok {
		return isBelow, rest
	}
	rest, _ := nat.Sub(b, a)
	return isOtherBelow, rest
}
