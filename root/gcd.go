package root

import (
	"math/bits"

	"penumbra/nat"
)

// Gcd answers the greatest natural that divides both a and b: of 0 and b it is b, of a and 0 it is a.
func Gcd(a, b []uint32) []uint32 {
	great, small := nat.Norm(a), nat.Norm(b)
	if nat.Cmp(great, small) < 0 {
		great, small = small, great
	}
	for len(small) > wordLimbs {
		great, small = shrunk(great, small)
	}
	if len(small) == 0 {
		return great
	}
	_, rest, _ := nat.DivMod(great, small)
	return nat.Of(gcdOfWords(word(small), word(rest)))
}

func gcdOfWords(a, b uint64) uint64 {
	for b != 0 {
		a, b = b, a%b
	}
	return a
}

// shrunk answers two lesser naturals, the greater one first, whose common divisors are those of great and small.
// Both have three limbs or more; their memory is used again for the answers.
func shrunk(great, small []uint32) ([]uint32, []uint32) {
	// Many steps of Euclid are taken at once, as Lehmer found: which ones is mostly told by the first bits alone.
	first, second := heads(great, small)
	c, isTurned := foresee(first, second)
	if c.lessB == 0 {
		_, rest, _ := nat.DivMod(great, small)
		return small, rest
	}
	small = append(small, make([]uint32, len(great)-len(small))...)
	if isTurned {
		great, small = small, great
		c = combination{timesA: c.lessB, lessB: c.timesA, timesB: c.lessA, lessA: c.timesB}
	}
	c.apply(great, small)
	return trimmed(great), trimmed(small)
}

// heads answers the first 64 bits of a, and the bits of b at the same places. a is normal, has three limbs or more, and is not below b.
func heads(a, b []uint32) (uint64, uint64) {
	last := len(a) - 1
	shift := bits.LeadingZeros32(a[last])
	return headAt(a, last, shift), headAt(b, last, shift)
}

// headAt answers 64 bits of a: the limb at last and those below it, but for the first bits, of which there are shift.
func headAt(a []uint32, last, shift int) uint64 {
	head := uint64(limbAt(a, last))<<limbBits | uint64(limbAt(a, last-1))
	return head<<shift | uint64(limbAt(a, last-2)>>(limbBits-shift))
}

// combination says which naturals two ones, a and b, become: timesA a - lessB b, and timesB b - lessA a.
type combination struct{ timesA, lessB, timesB, lessA uint64 }

// foresee takes Euclid's steps with the heads of two naturals, as long as they are sure to be the steps of the naturals too (Collins' rule).
// It answers what they make of the naturals, of which a is the greater one; after an odd number of steps all signs are turned.
// Each factor is below 2^32: it times the rest ahead of it is below the first head. If lessB is 0 no step is sure.
func foresee(a, b uint64) (combination, bool) {
	isTurned := true
	// What the last two rests and the one ahead of them are made of; signs go to and fro, and are left out.
	ofA := [3]uint64{0, 1, 0}
	ofB := [3]uint64{0, 0, 1}
	for b >= ofB[2] && a-b >= ofB[1]+ofB[2] {
		q := a / b
		a, b = b, a%b
		ofA = [3]uint64{ofA[1], ofA[2], ofA[1] + q*ofA[2]}
		ofB = [3]uint64{ofB[1], ofB[2], ofB[1] + q*ofB[2]}
		isTurned = !isTurned
	}
	return combination{timesA: ofA[0], lessB: ofB[0], timesB: ofB[1], lessA: ofA[1]}, isTurned
}

// apply makes a and b, which are of one length, what the combination says; neither is below 0 or longer then.
func (c combination) apply(a, b []uint32) {
	var first, second difference
	for i := range a {
		x, y := uint64(a[i]), uint64(b[i])
		a[i] = first.next(c.timesA*x, c.lessB*y)
		b[i] = second.next(c.timesB*y, c.lessA*x)
	}
}

// difference is what one row of limbs less another one carries from limb to limb.
type difference struct {
	more, less uint64
	borrow     uint32
}

// next answers a limb of the difference. Both products are of a factor and a limb below 2^32: a carry more never wraps round.
func (d *difference) next(more, less uint64) uint32 {
	d.more += more
	d.less += less
	limb, borrow := bits.Sub32(uint32(d.more), uint32(d.less), d.borrow)
	d.more >>= limbBits
	d.less >>= limbBits
	d.borrow = borrow
	return limb
}
