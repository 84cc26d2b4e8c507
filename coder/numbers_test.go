package coder_test

import (
	"math"
	"slices"
	"testing"

	"halide/api"
)

// must: what a call answers without an error.
func must[T any](told T, e api.Errno) T {
	if e != api.OK {
		panic(e)
	}
	return told
}

// chance: numbers that look as if by chance, the same ones each time.
func chance(seed uint64) func() uint32 {
	return func() uint32 {
		seed = seed*6364136223846793005 + 1442695040888963407
		return uint32(seed >> 32)
	}
}

// upTo: by chance, from 0 to n - 1.
func upTo(n int, next func() uint32) int { return int(next()) % n }

// edges: numbers about each power of two, and about what 23, 24 and 25 of each power come to.
func edges() []uint32 {
	l := []uint32{0, math.MaxUint32, math.MaxUint32 - 1}
	for k := range 32 {
		for _, n := range []uint64{1, 3, 23, 24, 25} {
			for by := range uint64(3) {
				if z := n<<k + by - 1; z <= math.MaxUint32 {
					l = append(l, uint32(z))
				}
			}
		}
	}
	slices.Sort(l)
	return slices.Compact(l)
}

// swept: edges, and numbers of all sizes between.
func swept() []uint32 {
	l := edges()
	for z := uint64(0); z <= math.MaxUint32; z += 4099 {
		l = append(l, uint32(z))
	}
	return l
}

// ofFolds: the list whose Folds are these.
func ofFolds(z ...uint32) []uint32 {
	l := make([]uint32, len(z))
	for i := range z {
		l[i] = unfoldTold(z[i])
	}
	return l
}

func allOf(n int, d uint32) []uint32 { return slices.Repeat([]uint32{d}, n) }

func listed(n int, number func() uint32) []uint32 {
	l := make([]uint32, n)
	for i := range l {
		l[i] = number()
	}
	return l
}

// kinds: numbers by chance, of many kinds: of one size, of all sizes, near 0 with a great one now and then, edges, great ones that become small, and small ones that become great.
func kinds(seed uint64) []func() uint32 {
	next := chance(seed)
	all := edges()
	falling, rising := 0, 0
	return []func() uint32{
		next,
		func() uint32 { return next() >> upTo(32, next) },
		func() uint32 { return -(next() >> (20 + upTo(12, next))) },
		func() uint32 {
			if next()%50 == 0 {
				return next()
			}
			return next()%5 - 2
		},
		func() uint32 { return all[upTo(len(all), next)] },
		func() uint32 { falling++; return next() >> min(31, falling/40) },
		func() uint32 { rising++; return next() >> max(0, 31-rising/40) },
		func() uint32 { return next() & 1 },
		func() uint32 { return 1<<31 + next()%9 - 4 },
	}
}

// lists: of each kind, short and long.
func lists(seed uint64) [][]uint32 {
	told := [][]uint32{nil, {}, allOf(64, 0), allOf(300, 0), allOf(300, 1<<31), allOf(130, 1), allOf(130, math.MaxUint32)}
	for _, d := range edges() {
		told = append(told, []uint32{d}, []uint32{1 << 31, d}, []uint32{0, d, d})
	}
	for _, n := range []int{2, 3, 5, 8, 31, 32, 33, 62, 63, 64, 65, 95, 96, 97, 400, 3000} {
		for _, number := range kinds(seed + uint64(n)) {
			told = append(told, listed(n, number))
		}
	}
	return told
}

// few: the beginning of a list, to be told in a test's line.
func few[T any](l []T) []T { return l[:min(len(l), 12)] }

func checkBytes(t *testing.T, what string, got []byte, e api.Errno, want []byte) {
	t.Helper()
	if !slices.Equal(got, want) || e != api.OK {
		t.Fatalf("%s: % X, of %d bytes, %d, want % X, of %d", what, few(got), len(got), e, few(want), len(want))
	}
}

func checkCost(t *testing.T, what string, got int, e api.Errno, want int) {
	t.Helper()
	if got != want || e != api.OK {
		t.Fatalf("%s: %d, %d, want %d", what, got, e, want)
	}
}

func checkList(t *testing.T, what string, got []uint32, e api.Errno, want []uint32) {
	t.Helper()
	if !slices.Equal(got, want) || e != api.OK {
		t.Fatalf("%s: %d, of %d numbers, %d, want %d, of %d", what, few(got), len(got), e, few(want), len(want))
	}
}

// checkNone: an error, and beside it nothing.
func checkNone[T any](t *testing.T, what string, got []T, e, want api.Errno) {
	t.Helper()
	if len(got) != 0 || e != want {
		t.Fatalf("%s: %v, of %d, %d, want an error %d", what, few(got), len(got), e, want)
	}
}
