package kernel_test

import (
	"math/big"
	"slices"
	"testing"

	"halide/api"
)

func kinds() []int { return []int{api.Box, api.Tent, api.Cubic} }

func rat(n, by int) *big.Rat { return big.NewRat(int64(n), int64(by)) }

func sum(l ...*big.Rat) *big.Rat {
	told := new(big.Rat)
	for _, r := range l {
		told.Add(told, r)
	}
	return told
}

// polynomial: of c, its numbers from that of the highest power on, halved.
func polynomial(c *big.Rat, numbers ...int) *big.Rat {
	told := new(big.Rat)
	for _, n := range numbers {
		told.Add(told.Mul(told, c), rat(n, 1))
	}
	return told.Mul(told, rat(1, 2))
}

// weightTold: P9.2's table.
func weightTold(kind int, d *big.Rat) *big.Rat {
	c := new(big.Rat).Abs(d)
	isBelow := func(a, b *big.Rat) bool { return a.Cmp(b) < 0 }
	switch {
	case kind == api.Box && !isBelow(d, rat(-1, 2)) && isBelow(d, rat(1, 2)):
		return rat(1, 1)
	case kind == api.Tent && isBelow(c, rat(1, 1)):
		return new(big.Rat).Sub(rat(1, 1), c)
	case kind == api.Cubic && isBelow(c, rat(1, 1)):
		return polynomial(c, 3, -5, 0, 2)
	case kind == api.Cubic && isBelow(c, rat(2, 1)):
		return polynomial(c, -1, 5, -8, 4)
	}
	return new(big.Rat)
}

// sharesTold: P9.1's words, by exact fractions.
func sharesTold(w []*big.Rat) []int {
	all := sum(w...)
	missing := 65536
	told, left := make([]int, len(w)), make([]*big.Rat, len(w))
	for i := range w {
		r := new(big.Rat).Quo(new(big.Rat).Mul(rat(65536, 1), w[i]), all)
		down := new(big.Int).Div(r.Num(), r.Denom()) // rounds down, as the denominator is above 0
		left[i] = new(big.Rat).Sub(r, new(big.Rat).SetInt(down))
		told[i] = int(down.Int64())
		missing -= told[i]
	}
	for range missing {
		best := 0
		for i := range left {
			if left[i].Cmp(left[best]) > 0 {
				best = i
			}
		}
		told[best]++
		left[best] = rat(-1, 1)
	}
	return told
}

func distanceTold(from, to, i, k int) *big.Rat {
	return rat(2*to*k-(2*i+1)*from+to, 2*max(from, to))
}

// tapsTold: P9.2's words, of arguments that are right.
func tapsTold(kind, from, to, i int) []api.Tap {
	middle, far := ((2*i+1)*from-to)/(2*to), 2*max(from, to)/to+3
	byPlace := map[int]*big.Rat{}
	for k := middle - far; k <= middle+far; k++ {
		w := weightTold(kind, distanceTold(from, to, i, k))
		if w.Sign() == 0 {
			continue
		}
		at := min(max(k, 0), from-1)
		if byPlace[at] == nil {
			byPlace[at] = new(big.Rat)
		}
		byPlace[at].Add(byPlace[at], w)
	}
	var weights []*big.Rat
	var places []int
	for at := range from {
		if byPlace[at] != nil {
			places, weights = append(places, at), append(weights, byPlace[at])
		}
	}
	var told []api.Tap
	for j, n := range sharesTold(weights) {
		if n != 0 {
			told = append(told, api.Tap{At: places[j], N: n})
		}
	}
	return told
}

func checkTaps(t *testing.T, kind, from, to, i int, got []api.Tap, e api.Errno, want []api.Tap) {
	t.Helper()
	if e != api.OK || !slices.Equal(got, want) {
		t.Fatalf("Taps(%d, %d, %d, %d): %v, %d, want %v", kind, from, to, i, got, e, want)
	}
}

func checkNumbers(t *testing.T, what string, got []int, e api.Errno, want []int) {
	t.Helper()
	if e != api.OK || !slices.Equal(got, want) {
		t.Fatalf("%s: %v, %d, want %v", what, got, e, want)
	}
}

func checkNone(t *testing.T, what string, got []int, e api.Errno) {
	t.Helper()
	if e != api.ErrKernelSize || len(got) != 0 {
		t.Fatalf("%s: %v, %d, want nothing and %d", what, got, e, api.ErrKernelSize)
	}
}

// chance: numbers that look as if by chance, the same ones each time.
func chance(seed uint64) func() uint64 {
	return func() uint64 {
		seed = seed*6364136223846793005 + 1442695040888963407
		return seed >> 20
	}
}

func repeated(n, times int) []int {
	l := make([]int, times)
	for i := range l {
		l[i] = n
	}
	return l
}
