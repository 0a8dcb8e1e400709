package step

import (
	"math/bits"

	"bolthole/api"
)

// cycle: by multiples of that numbers differ which are folded to the same one.
const cycle = 2*api.MaxInt + 1

// fold a number.
func fold(n int) int {
	n %= cycle
	if n > api.MaxInt {
		return n - cycle
	}
	if n < -api.MaxInt {
		return n + cycle
	}
	return n
}

// product of two numbers, folded; as it may need more than 64 bits it is reduced ahead of getting its sign.
func product(a, b int) int {
	high, low := bits.Mul64(magnitude(a), magnitude(b))
	n := fold(int(bits.Rem64(high, low, cycle)))
	if (a < 0) != (b < 0) {
		return -n
	}
	return n
}

func magnitude(n int) uint64 {
	if n < 0 {
		return uint64(-n)
	}
	return uint64(n)
}

// operate: what the operation of a Kind, from Add to Slt, makes of two numbers.
func operate(kind, a, b int) int {
	switch kind {
	case api.Add:
		return fold(a + b)
	case api.Sub:
		return fold(a - b)
	case api.Mul:
		return product(a, b)
	case api.And:
		return fold(a & b)
	case api.Or:
		return fold(a | b)
	case api.Xor:
		return fold(a ^ b)
	}
	if a < b {
		return 1
	}
	return 0
}

// isTaken: does the branch of a Kind go on where it leads?
func isTaken(kind, a, b int) bool {
	switch kind {
	case api.Beq:
		return a == b
	case api.Bne:
		return a != b
	case api.Blt:
		return a < b
	}
	return a >= b
}
