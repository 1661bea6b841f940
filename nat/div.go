package nat

import "math/bits"

// DivMod answers the quotient of a by b, what is left of a, and true; nothing, nothing and false, if b is 0.
func DivMod(a, b []uint32) ([]uint32, []uint32, bool) {
	a, b = trimmed(a), trimmed(b)
	switch {
	case len(b) == 0:
		return nil, nil, false
	case Cmp(a, b) < 0:
		return nil, Norm(a), true
	case len(b) == 1:
		quotient, rest := divByLimb(a, b[0])
		return quotient, Of(uint64(rest)), true
	}
	quotient, rest := divLong(a, b)
	return quotient, rest, true
}

// divByLimb divides a by a limb that is not 0.
func divByLimb(a []uint32, b uint32) ([]uint32, uint32) {
	quotient := make([]uint32, len(a))
	rest := uint64(0)
	for i := len(a) - 1; i >= 0; i-- {
		rest = rest<<limbBits | uint64(a[i])
		quotient[i] = uint32(rest / uint64(b))
		rest %= uint64(b)
	}
	return trimmed(quotient), uint32(rest)
}

// divLong divides a by b, limb by limb, as on paper. Both are normal, b has two limbs or more, and a is not below b.
func divLong(a, b []uint32) ([]uint32, []uint32) {
	n := len(b)
	// Both are shifted until b's last bit is set: so a guess is too great by 2 at most.
	shift := bits.LeadingZeros32(b[n-1])
	divisor := make([]uint32, n+1)
	shiftUp(divisor, b, shift)
	divisor = divisor[:n]
	left := make([]uint32, len(a)+1)
	shiftUp(left, a, shift)
	quotient := make([]uint32, len(a)-n+1)
	for i := len(quotient) - 1; i >= 0; i-- {
		quotient[i] = divStep(left[i:i+n+1], divisor)
	}
	return trimmed(quotient), shiftedDown(left[:n], shift)
}

// divStep takes the divisor from left, which is one limb longer, as often as it can, and answers how often: a limb.
func divStep(left, divisor []uint32) uint32 {
	q := guess(left, divisor)
	if subProduct(left, divisor, q) {
		// The borrow that is still open is met by the carry that addTo leaves out.
		addTo(left, divisor)
		q--
	}
	return q
}

// guess answers from the three last limbs of left and the two last ones of the divisor how often it can be taken: just so, or 1 too many.
func guess(left, divisor []uint32) uint32 {
	n := len(divisor)
	head := uint64(left[n])<<limbBits | uint64(left[n-1])
	first, second := uint64(divisor[n-1]), uint64(divisor[n-2])
	q, rest := head/first, head%first
	for q>>limbBits != 0 || q*second > rest<<limbBits|uint64(left[n-2]) {
		q--
		rest += first
		if rest>>limbBits != 0 {
			break
		}
	}
	return uint32(q)
}

// subProduct takes b times limb from left, which is one limb longer, and answers whether it was below that: then a borrow beyond its last limb is left out.
func subProduct(left, b []uint32, limb uint32) bool {
	carry, borrow := uint64(0), uint32(0)
	for i, other := range b {
		carry += uint64(limb) * uint64(other)
		left[i], borrow = bits.Sub32(left[i], uint32(carry), borrow)
		carry >>= limbBits
	}
	left[len(b)], borrow = bits.Sub32(left[len(b)], uint32(carry), borrow)
	return borrow != 0
}

// shiftedDown answers a new list: a divided by 2^n, n being from 0 to 31, without what is left.
func shiftedDown(a []uint32, n int) []uint32 {
	out := make([]uint32, len(a))
	above := uint64(0)
	for i := len(a) - 1; i >= 0; i-- {
		above = above<<limbBits | uint64(a[i])
		out[i] = uint32(above >> n)
	}
	return trimmed(out)
}
