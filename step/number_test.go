package step_test

import (
	"fmt"
	"math/big"
	"testing"

	"bolthole/api"
	"bolthole/step"
)

// edges: numbers at which folding begins, or bits change.
var edges = []int{
	0, 1, -1, 2, -2, 3, -3, 255, -256, 32767, -32768, 65537, -65537,
	1 << 20, -1 << 20, 1<<20 + 1, -1<<20 - 1, 1<<32 - 1, 1 << 32, -1 << 32, 3037000500, -3037000500,
	api.MaxInt / 2, api.MaxInt/2 + 1, -api.MaxInt / 2, -api.MaxInt/2 - 1, api.MaxInt / 3, -api.MaxInt / 3,
	api.MaxInt - 1, 1 - api.MaxInt, api.MaxInt, -api.MaxInt, 0x5555555555, -0x5555555555, 0xaaaaaaaaaa, -0xaaaaaaaaaa,
}

// folded: of a number of any size, as the chapter says it (P3.2).
func folded(n *big.Int) int {
	cycle := big.NewInt(2*api.MaxInt + 1)
	rest := new(big.Int).Mod(n, cycle) // from 0 on
	if rest.Cmp(big.NewInt(api.MaxInt)) > 0 {
		rest.Sub(rest, cycle)
	}
	return int(rest.Int64())
}

// wanted: what an operation makes of two numbers, by way of whole numbers of any size (P3.2).
func wanted(kind, a, b int) int {
	x, y, z := big.NewInt(int64(a)), big.NewInt(int64(b)), new(big.Int)
	switch kind {
	case api.Add:
		z.Add(x, y)
	case api.Sub:
		z.Sub(x, y)
	case api.Mul:
		z.Mul(x, y)
	case api.And:
		z.And(x, y)
	case api.Or:
		z.Or(x, y)
	case api.Xor:
		z.Xor(x, y)
	case api.Slt:
		if a < b {
			z.SetInt64(1)
		}
	}
	return folded(z)
}

// operated: what a program makes of two inputs.
func operated(t *testing.T, kind, a, b int) {
	t.Helper()
	m := program(input(1), input(2), op(kind, 3, 1, 2), out(3), halt)
	want := api.Run{Told: []int{wanted(kind, a, b)}, End: api.Halted, Steps: 4, At: 9}
	runs(t, fmt.Sprint("kind ", kind, " of ", a, " and ", b), m, []int{a, b}, 9, want)
}

// P3.2, P3.3: Add to Slt, of all pairs of edges.
func TestOperations(t *testing.T) {
	for kind := api.Add; kind <= api.Slt; kind++ {
		for _, a := range edges {
			for _, b := range edges {
				operated(t, kind, a, b)
			}
		}
	}
}

// P3.2, P3.3: Add to Slt, of numbers that look drawn.
func TestOperationsDrawn(t *testing.T) {
	state := uint64(7)
	drawn := func() int {
		state = state*6364136223846793005 + 1442695040888963407
		return int((state>>20)%(2*api.MaxInt+1)) - api.MaxInt
	}
	for range 3000 {
		a, b := drawn(), drawn()
		for kind := api.Add; kind <= api.Slt; kind++ {
			operated(t, kind, a, b)
		}
	}
}

// P3.2: examples, worked out by hand.
func TestFoldedExamples(t *testing.T) {
	for _, c := range []struct{ kind, a, b, want int }{
		{api.Add, api.MaxInt, 1, -api.MaxInt},
		{api.Add, -api.MaxInt, -1, api.MaxInt},
		{api.Add, api.MaxInt, api.MaxInt, -1},
		{api.Sub, -api.MaxInt, api.MaxInt, 1},
		{api.Sub, 0, -api.MaxInt, api.MaxInt},
		{api.Mul, api.MaxInt, 2, -1},
		{api.Mul, api.MaxInt, -2, 1},
		{api.Mul, api.MaxInt, 4, -2},
		{api.Mul, api.MaxInt, api.MaxInt, -api.MaxInt / 2}, // 2^80 is 2^39 times 2^41, which is folded to -1
		{api.Mul, api.MaxInt, -api.MaxInt, api.MaxInt / 2},
		{api.Mul, -api.MaxInt, -api.MaxInt, -api.MaxInt / 2},
		{api.And, -api.MaxInt, api.MaxInt, api.MaxInt},
		{api.And, -api.MaxInt, api.MaxInt - 1, 0},
		{api.Or, api.MaxInt, api.MaxInt - 1, -2},
		{api.Or, -api.MaxInt, 5, 5 - api.MaxInt},
		{api.Xor, -api.MaxInt, api.MaxInt, 1},
		{api.Xor, api.MaxInt, 3, -api.MaxInt + 2},
		{api.Xor, -1, 0, -1},
		{api.Slt, -api.MaxInt, api.MaxInt, 1},
		{api.Slt, api.MaxInt, -api.MaxInt, 0},
		{api.Slt, 4, 4, 0},
	} {
		m := program(input(1), input(2), op(c.kind, 3, 1, 2), out(3), halt)
		r, e := step.Run(m, []int{c.a, c.b}, 9)
		if e != api.OK || len(r.Told) != 1 || r.Told[0] != c.want {
			t.Errorf("kind %d of %d and %d: %+v, %v, want %d", c.kind, c.a, c.b, r, e, c.want)
		}
	}
}

// P3.2, P3.3: the sum of an Addi is folded.
func TestAddiFolded(t *testing.T) {
	for _, a := range edges {
		for _, n := range []int{-128, -2, -1, 0, 1, 2, 127} {
			m := program(input(1), addi(2, 1, n), out(2), halt)
			want := api.Run{Told: []int{wanted(api.Add, a, n)}, End: api.Halted, Steps: 3, At: 7}
			runs(t, fmt.Sprint("Addi of ", a, " and ", n), m, []int{a}, 9, want)
		}
	}
}

// P3.2: what was folded is reckoned on with as it is.
func TestFoldedAgain(t *testing.T) {
	l := []api.Instr{input(1)}
	var want []int
	n := 3
	for k := range 100 {
		l = append(l, op(api.Mul, 1, 1, 1), addi(1, 1, k), out(1))
		n = wanted(api.Add, wanted(api.Mul, n, n), k)
		want = append(want, n)
	}
	m := program(append(l, halt)...)
	runs(t, "squares", m, []int{3}, 500, api.Run{Told: want, End: api.Halted, Steps: 301, At: 2 + 8*100})
}
