package curve_test

import (
	"math"
	"math/rand"
	"slices"
	"testing"

	"halide/api"
	"halide/curve"
)

// Samples that the chapter names, of the sign +.
const (
	plusZero      = 0x00000000
	minusZero     = 0x80000000
	leastSmall    = 0x00000001
	greatestSmall = 0x007FFFFF
	leastNormal   = 0x00800000
	half          = 0x3F000000
	one           = 0x3F800000
	two           = 0x40000000
	greatest      = 0x7F7FFFFF
	infinity      = 0x7F800000
	leastNaN      = 0x7F800001
	made          = 0x7FC00000
	lastNaN       = 0x7FFFFFFF
	sign          = 0x80000000
)

func sampleOf(f float32) uint32 { return math.Float32bits(f) }

func bothSigns(above ...uint32) []uint32 {
	var all []uint32
	for _, s := range above {
		all = append(all, s, s|sign)
	}
	return all
}

func nans() []uint32 { return bothSigns(leastNaN, 0x7FBFFFFF, made, 0x7FC00009, lastNaN) }

func finites() []uint32 {
	return bothSigns(plusZero, leastSmall, 2, 0x00400000, greatestSmall, leastNormal, 0x3EFFFFFF, half, 0x3F7FFFFF, one, one+1, two, 0x4B800001, 0x7F000000, greatest-1, greatest)
}

func endless() []uint32 { return append(nans(), infinity, infinity|sign) }

// keyOf and ofKey: DOC.md's words.
func keyOf(s uint32) uint32 {
	if s&sign == 0 {
		return s + sign
	}
	return math.MaxUint32 - s
}

func ofKey(k uint32) uint32 {
	if k >= sign {
		return k - sign
	}
	return math.MaxUint32 - k
}

func isNaN(s uint32) bool { return s&^uint32(sign) > infinity }

// about: a sample and those next to it, by key.
func about(s uint32) []uint32 {
	k := keyOf(s)
	return []uint32{ofKey(k - 2), ofKey(k - 1), s, ofKey(k + 1), ofKey(k + 2)}
}

// lower: the sample directly below it, by value.
func lower(s uint32) uint32 {
	if s == plusZero {
		s = minusZero
	}
	return ofKey(keyOf(s) - 1)
}

func knotsOf(xy ...uint32) []api.Knot {
	var l []api.Knot
	for i := 0; i < len(xy); i += 2 {
		l = append(l, api.Knot{X: xy[i], Y: xy[i+1]})
	}
	return l
}

// namedKnots: curves that the chapter names, or that lie at an edge that it names.
func namedKnots() [][]api.Knot {
	far := sampleOf(3.4e38)
	return [][]api.Knot{
		knotsOf(0, 0, one, half, two, sampleOf(4)),
		knotsOf(0, minusZero, one, minusZero),
		knotsOf(0, plusZero, one, minusZero, two, plusZero, sampleOf(3), one),
		knotsOf(one|sign, minusZero, minusZero, minusZero, one, one, two, one, sampleOf(3), one),
		knotsOf(minusZero, one|sign, one, one),
		knotsOf(plusZero, one|sign, one, one),
		knotsOf(one|sign, one|sign, minusZero, one),
		knotsOf(one|sign, one|sign, plusZero, one),
		knotsOf(one|sign, one|sign, plusZero, minusZero, one, one),
		knotsOf(one|sign, one|sign, minusZero, plusZero, one, one),
		knotsOf(far|sign, far|sign, far, far),
		knotsOf(greatest|sign, greatest|sign, greatest, greatest),
		knotsOf(greatest|sign, greatest|sign, minusZero, minusZero, greatest, greatest),
		knotsOf(greatest|sign, plusZero, greatest, leastSmall),
		knotsOf(greatest|sign, leastSmall|sign, greatest, leastSmall),
		knotsOf(leastSmall|sign, greatest|sign, leastSmall, greatest),
		knotsOf(0, greatest|sign, 3, greatest),
		knotsOf(0, greatest|sign, sampleOf(3), leastSmall, sampleOf(5), one),
		knotsOf(0, far|sign, sampleOf(49), one, sampleOf(50), far),
		knotsOf(19|sign, 7|sign, 3|sign, 7|sign, 5, 6, 19, 90),
		knotsOf(40|sign, 40|sign, 40, 40),
		knotsOf(300|sign, one|sign, minusZero, minusZero, 300, one),
		knotsOf(one, leastSmall|sign, one+400, 2),
		knotsOf(one, one, one+1, two),
		knotsOf(greatest-1, 5, greatest, greatest),
	}
}

// chanceKnots: n knots; in X of one exponent or of many, in Y too, with flat pieces; two noughts stand in no curve's X.
func chanceKnots(r *rand.Rand, n int) []api.Knot {
	xs, ys := chanceRising(r, n), chanceRising(r, n)
	l := make([]api.Knot, n)
	for i := range l {
		l[i] = api.Knot{X: xs[i], Y: ys[i]}
		if i > 0 && r.Intn(4) == 0 {
			l[i].Y = l[i-1].Y
			if l[i].Y&^sign == 0 {
				l[i].Y ^= sign // the other nought: the same value
			}
		}
	}
	return l
}

// chanceRising: n finite samples, no two of one value, by key.
func chanceRising(r *rand.Rand, n int) []uint32 {
	lo, span := uint32(0), uint32(255)
	switch r.Intn(4) {
	case 0:
		lo, span = 127, 1
	case 1:
		lo, span = 0, 2
	case 2:
		lo, span = 120, 14
	}
	var l []uint32
	for len(l) < n {
		s := r.Uint32()&^(1<<r.Intn(24)-1)&^(255<<23) | (lo+r.Uint32()%span)<<23
		if s&^sign == 0 && (slices.Contains(l, plusZero) || slices.Contains(l, minusZero)) || slices.Contains(l, s) {
			continue
		}
		l = append(l, s)
	}
	slices.SortFunc(l, func(a, b uint32) int { return int(keyOf(a)) - int(keyOf(b)) })
	return l
}

// someKnots: the named ones and some by chance, of 2 to MaxKnots knots.
func someKnots() [][]api.Knot {
	r := rand.New(rand.NewSource(4))
	all := namedKnots()
	for _, n := range []int{2, 2, 2, 2, 2, 3, 3, 3, 4, 5, 7, 10, 16, 33, api.MaxKnots} {
		for range 6 {
			all = append(all, chanceKnots(r, n))
		}
	}
	return all
}

// risingKnots: those whose curves can be turned.
func risingKnots() [][]api.Knot {
	return slices.DeleteFunc(someKnots(), func(l []api.Knot) bool {
		for i := 1; i < len(l); i++ {
			if valueOf(l[i].Y).Cmp(valueOf(l[i-1].Y)) == 0 {
				return true
			}
		}
		return false
	})
}

// placesOf: samples to ask a curve at: its knots, between them, beyond them, edges.
func placesOf(l []api.Knot) []uint32 {
	r := rand.New(rand.NewSource(int64(len(l))))
	all := append(finites(), infinity, infinity|sign)
	for i, k := range l {
		all = append(all, about(k.X)...)
		if i == 0 {
			continue
		}
		from, to := keyOf(l[i-1].X), keyOf(k.X)
		for range 6 {
			all = append(all, ofKey(from+uint32(r.Int63n(int64(to)-int64(from)+1))))
		}
		mean := sampleOf(math.Float32frombits(l[i-1].X)/2 + math.Float32frombits(k.X)/2)
		all = append(all, mean, ofKey(from/2+to/2))
	}
	return slices.DeleteFunc(all, isNaN)
}

// heightsOf: samples that a curve may be asked to come to: its knots', what it has, those next to these, edges.
func heightsOf(l []api.Knot, at func(uint32) uint32) []uint32 {
	all := append(finites(), infinity, infinity|sign)
	for _, k := range l {
		all = append(all, about(k.Y)...)
	}
	for i, x := range placesOf(l) {
		if i%5 == 0 {
			all = append(all, about(at(x))...)
		}
	}
	return slices.DeleteFunc(all, isNaN)
}

func curveOf(t *testing.T, l []api.Knot) *curve.Curve {
	t.Helper()
	c, e := curve.New(l)
	if e != api.OK || c == nil {
		t.Fatalf("New(%08X): %d", l, e)
	}
	return c
}

func chainOf(t *testing.T, l ...*curve.Curve) *curve.Chain {
	t.Helper()
	c, e := curve.Join(l...)
	if e != api.OK || c == nil {
		t.Fatalf("Join of %d: %d", len(l), e)
	}
	return c
}

func checkAt(t *testing.T, got, want, x uint32, l []api.Knot) {
	t.Helper()
	if got != want {
		t.Fatalf("At(%08X): %08X, want %08X; knots %08X", x, got, want, l)
	}
}
