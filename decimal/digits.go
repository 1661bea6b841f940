package decimal

import (
	"slices"
	"strings"

	"penumbra/nat"
)

// Digits are put together and taken apart in parts: partDigits digits make a part, which is below partBase and so a limb.
const (
	partDigits = 9
	partBase   = 1_000_000_000
	// A part holds that many bits of any natural at least, as 2^29 is below partBase.
	partBits = 29
)

// Natural answers the digits of a natural, without noughts ahead.
func Natural(a []uint32) string {
	var text []byte
	for _, part := range slices.Backward(partsOf(a)) {
		text = appendPart(text, part)
	}
	digits := strings.TrimLeft(string(text), "0")
	if digits == "" {
		return "0"
	}
	return digits
}

// valueOf answers the natural of digits, of which there is one at least.
func valueOf(digits string) []uint32 {
	parts := cut(digits)
	for _, power := range squares(len(parts)) {
		parts = joined(parts, power)
	}
	return parts[0]
}

// squares answers partBase, its square, that one's square and so on: as many as it takes to make count parts one, or one natural count parts.
func squares(count int) [][]uint32 {
	powers := [][]uint32{nat.Of(partBase)}
	for reach := 2; reach < count; reach *= 2 {
		last := powers[len(powers)-1]
		powers = append(powers, nat.Mul(last, last))
	}
	return powers
}

// cut answers the parts of digits, the last ones' part first.
func cut(digits string) [][]uint32 {
	count := (len(digits) + partDigits - 1) / partDigits
	parts := make([][]uint32, count)
	for i := range count {
		end := len(digits) - i*partDigits
		parts[i] = nat.Of(partValue(digits[max(0, end-partDigits):end]))
	}
	return parts
}

// partValue answers the number of at most partDigits digits.
func partValue(digits string) uint64 {
	value := uint64(0)
	for i := range len(digits) {
		value = value*10 + uint64(digits[i]-'0')
	}
	return value
}

// joined makes of each two parts one: the first one, and the second one times power; a last part without a second one stays.
func joined(parts [][]uint32, power []uint32) [][]uint32 {
	pairs := make([][]uint32, (len(parts)+1)/2)
	for i := range pairs {
		pairs[i] = parts[2*i]
		if 2*i+1 < len(parts) {
			pairs[i] = nat.Add(pairs[i], nat.Mul(power, parts[2*i+1]))
		}
	}
	return pairs
}

// partsOf answers the parts of a, the last digits' part first; the last parts may be 0.
func partsOf(a []uint32) [][]uint32 {
	parts := [][]uint32{a}
	powers := squares(nat.Bits(a)/partBits + 1)
	for _, power := range slices.Backward(powers) {
		parts = split(parts, power)
	}
	return parts
}

// split makes of each part two, each of which is below power: what is left of it by power, and how often it has power. It undoes joined.
func split(parts [][]uint32, power []uint32) [][]uint32 {
	halves := make([][]uint32, 0, 2*len(parts))
	for _, part := range parts {
		often, rest, _ := nat.DivMod(part, power)
		halves = append(halves, rest, often)
	}
	return halves
}

// appendPart writes all partDigits digits of a part behind text, noughts ahead too.
func appendPart(text []byte, part []uint32) []byte {
	rest := uint32(0)
	if len(part) > 0 {
		rest = part[0]
	}
	var digits [partDigits]byte
	for i := range partDigits {
		digits[partDigits-1-i] = '0' + byte(rest%10)
		rest /= 10
	}
	return append(text, digits[:]...)
}
