// Package nat is layer 1: naturals of any size, as lists of limbs of 32 bits, the least limb first.
package nat

import (
	"math/bits"

	"penumbra/api"
)

const limbBits = 32

// Norm answers the natural a without limbs 0 at its end.
func Norm(a []uint32) []uint32 {
	a = trimmed(a)
	if len(a) == 0 {
		return nil
	}
	out := make([]uint32, len(a))
	copy(out, a)
	return out
}

// Of answers the natural of n.
func Of(n uint64) []uint32 {
	return trimmed([]uint32{uint32(n), uint32(n >> limbBits)})
}

// Bits answers how many bits a has: 0 of 0.
func Bits(a []uint32) int {
	a = trimmed(a)
	if len(a) == 0 {
		return 0
	}
	last := len(a) - 1
	return last*limbBits + bits.Len32(a[last])
}

// Cmp answers -1, 0 or 1, if a is below, the same as, or above b.
func Cmp(a, b []uint32) int {
	a, b = trimmed(a), trimmed(b)
	if len(a) != len(b) {
		return order(len(a) < len(b))
	}
	for i := len(a) - 1; i >= 0; i-- {
		if a[i] != b[i] {
			return order(a[i] < b[i])
		}
	}
	return 0
}

// Add answers the sum of a and b.
func Add(a, b []uint32) []uint32 {
	a, b = trimmed(a), trimmed(b)
	if len(a) < len(b) {
		a, b = b, a
	}
	sum := make([]uint32, len(a)+1)
	copy(sum, a)
	addTo(sum, b)
	return trimmed(sum)
}

// Sub answers a less b, and true; nothing and false, if a is below b.
func Sub(a, b []uint32) ([]uint32, bool) {
	a, b = trimmed(a), trimmed(b)
	if Cmp(a, b) < 0 {
		return nil, false
	}
	rest := make([]uint32, len(a))
	borrow := uint32(0)
	for i, limb := range b {
		rest[i], borrow = bits.Sub32(a[i], limb, borrow)
	}
	for i := len(b); i < len(a); i++ {
		rest[i], borrow = bits.Sub32(a[i], 0, borrow)
	}
	return trimmed(rest), true
}

// Mul answers the product of a and b.
func Mul(a, b []uint32) []uint32 {
	a, b = trimmed(a), trimmed(b)
	if len(a) == 0 || len(b) == 0 {
		return nil
	}
	product := make([]uint32, len(a)+len(b))
	for i, limb := range a {
		product[i+len(b)] = addProduct(product[i:i+len(b)], b, limb)
	}
	return trimmed(product)
}

// Shl answers a times 2^n, and true; nothing and false, if n is below 0 or above api.MaxShift.
func Shl(a []uint32, n int) ([]uint32, bool) {
	if n < 0 || n > api.MaxShift {
		return nil, false
	}
	a = trimmed(a)
	if len(a) == 0 {
		return nil, true
	}
	whole := n / limbBits
	out := make([]uint32, whole+len(a)+1)
	shiftUp(out[whole:], a, n%limbBits)
	return trimmed(out), true
}

// trimmed is a view of a, not a copy. It is nil of 0, so that an answer 0 never holds on to an argument's memory.
func trimmed(a []uint32) []uint32 {
	n := len(a)
	for n > 0 && a[n-1] == 0 {
		n--
	}
	if n == 0 {
		return nil
	}
	return a[:n]
}

func order(below bool) int {
	if below {
		return -1
	}
	return 1
}

// addTo adds b to what stands in sum, which is at least as long, and leaves out a carry beyond its last limb.
func addTo(sum, b []uint32) {
	carry := uint32(0)
	for i, limb := range b {
		sum[i], carry = bits.Add32(sum[i], limb, carry)
	}
	for i := len(b); i < len(sum) && carry != 0; i++ {
		sum[i], carry = bits.Add32(sum[i], 0, carry)
	}
}

// addProduct adds b times limb to what stands in sum, which is as long as b, and answers the carry.
func addProduct(sum, b []uint32, limb uint32) uint32 {
	carry := uint64(0)
	for i, other := range b {
		// (2^32 - 1)^2 + 2 (2^32 - 1) = 2^64 - 1: it never wraps round.
		carry += uint64(limb)*uint64(other) + uint64(sum[i])
		sum[i] = uint32(carry)
		carry >>= limbBits
	}
	return uint32(carry)
}

// shiftUp writes a times 2^n to out, which is one limb longer than a; n is from 0 to 31.
func shiftUp(out, a []uint32, n int) {
	carry := uint64(0)
	for i, limb := range a {
		carry |= uint64(limb) << n
		out[i] = uint32(carry)
		carry >>= limbBits
	}
	out[len(a)] = uint32(carry)
}
