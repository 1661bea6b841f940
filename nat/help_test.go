package nat

import (
	"math/big"
	"slices"
	"testing"
)

const top = 1<<32 - 1

// source makes limbs that are the same in each run; edges (0, 1, 2^31, 2^32 - 1) come often.
type source struct{ state uint64 }

func (s *source) next() uint64 {
	s.state += 0x9e3779b97f4a7c15
	z := s.state
	z = (z ^ z>>30) * 0xbf58476d1ce4e5b9
	z = (z ^ z>>27) * 0x94d049bb133111eb
	return z ^ z>>31
}

func (s *source) below(n int) int { return int(s.next() % uint64(n)) }

func (s *source) limb() uint32 {
	edges := []uint32{0, 0, 1, 2, 1<<31 - 1, 1 << 31, 1<<31 + 1, top - 1, top, top}
	if i := s.below(2 * len(edges)); i < len(edges) {
		return edges[i]
	}
	return uint32(s.next())
}

// natural makes a list of at most most limbs; it may end in limbs 0.
func (s *source) natural(most int) []uint32 {
	list := make([]uint32, s.below(most+1))
	for i := range list {
		list[i] = s.limb()
	}
	return list
}

func bigOf(a []uint32) *big.Int {
	sum := new(big.Int)
	for _, limb := range slices.Backward(a) {
		sum.Lsh(sum, 32)
		sum.Or(sum, new(big.Int).SetUint64(uint64(limb)))
	}
	return sum
}

func limbsOf(n *big.Int) []uint32 {
	var list []uint32
	mask := new(big.Int).SetUint64(top)
	for rest := new(big.Int).Set(n); rest.Sign() > 0; rest.Rsh(rest, 32) {
		list = append(list, uint32(new(big.Int).And(rest, mask).Uint64()))
	}
	return list
}

// run answers a list of n limbs that are all the same.
func run(n int, limb uint32) []uint32 { return slices.Repeat([]uint32{limb}, n) }

func list(limbs ...uint32) []uint32 { return limbs }

func join(parts ...[]uint32) []uint32 { return slices.Concat(parts...) }

func isSame(t *testing.T, what string, got, want []uint32) {
	t.Helper()
	if !slices.Equal(got, want) {
		t.Errorf("%s: got %v, want %v", what, got, want)
	}
}
