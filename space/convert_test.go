package space_test

import (
	"math"
	"testing"

	"halide/api"
	"halide/space"
)

// toRGBTold and fromRGBTold: P7.4's two steps, by what the chapter says of each.

func toRGBTold(from int, c three) three {
	switch from {
	case api.YCC:
		return fromYCCTold(c)
	case api.LogRGB:
		return three{expTold(c[0]), expTold(c[1]), expTold(c[2])}
	case api.Lifted:
		return of(space.Drop(c[0], c[1], c[2])) // held by P7.3's tests
	}
	return c
}

func fromRGBTold(to int, c three) three {
	switch to {
	case api.YCC:
		return toYCCTold(c)
	case api.LogRGB:
		return three{logTold(c[0]), logTold(c[1]), logTold(c[2])}
	case api.Lifted:
		return liftTold(c)
	}
	return c
}

// fewThrees: each edge in each of the three, and some by chance.
func fewThrees() []three {
	all := []three{{1, 2, 3}, {one, two, four}, {half, 0xFFC12345, leastNaN}}
	l := edges()
	for i, s := range l {
		a, b := l[(i+7)%len(l)], l[(i+29)%len(l)]
		all = append(all, three{s, a, b}, three{b, s, a}, three{a, b, s}, three{s, s, s})
	}
	next := chance(74)
	for range 2000 {
		a := next()
		all = append(all, three{a, next(), next()}, three{a, near(a, next()), near(a, next())}, three{near(one, a), near(one, next()), near(one, next())})
	}
	return all
}

func checkConvert(t *testing.T, from, to int, c, want three, e api.Errno) {
	t.Helper()
	x, y, z, got := space.Convert(from, to, c[0], c[1], c[2])
	if of(x, y, z) != want || got != e {
		t.Fatalf("Convert(%d, %d, %08X): %08X, %08X, %08X, %d, want %08X, %d", from, to, c, x, y, z, got, want, e)
	}
}

func TestP7_4EveryTwoSpaces(t *testing.T) {
	for from := api.RGB; from <= api.Lifted; from++ {
		for to := api.RGB; to <= api.Lifted; to++ {
			if from == to {
				continue
			}
			for _, c := range fewThrees() {
				checkConvert(t, from, to, c, fromRGBTold(to, toRGBTold(from, c)), api.OK)
			}
		}
	}
}

func TestP7_4OneSpaceIsCopied(t *testing.T) {
	for kind := api.Plain; kind <= api.Lifted; kind++ {
		for _, c := range fewThrees() {
			checkConvert(t, kind, kind, c, c, api.OK)
		}
	}
}

func TestP7_4NoSpace(t *testing.T) {
	none := []int{api.Plain - 1, api.Lifted + 1, 6, -4, 255, 256, 257, 1 << 32, 1<<32 + 1, -1 << 32, math.MinInt, math.MinInt + 1, math.MaxInt}
	for _, n := range none {
		for kind := api.Plain; kind <= api.Lifted; kind++ {
			checkConvert(t, n, kind, three{1, 2, 3}, three{}, api.ErrSpaceKind)
			checkConvert(t, kind, n, three{1, 2, 3}, three{}, api.ErrSpaceKind)
		}
		for _, m := range none {
			checkConvert(t, n, m, three{1, 2, 3}, three{}, api.ErrSpaceKind)
		}
	}
}

func TestP7_4PlainOnOneSide(t *testing.T) {
	for kind := api.RGB; kind <= api.Lifted; kind++ {
		for _, c := range []three{{1, 2, 3}, {}, {made, leastNaN, infinity}} {
			checkConvert(t, api.Plain, kind, c, three{}, api.ErrSpaceKind)
			checkConvert(t, kind, api.Plain, c, three{}, api.ErrSpaceKind)
		}
	}
}
