package pyramid_test

import (
	"fmt"
	"testing"

	"halide/api"
	"halide/pyramid"
)

func checkReduceTold(t *testing.T, p api.Plane) {
	t.Helper()
	got, e := pyramid.Reduce(p)
	checkPlane(t, fmt.Sprintf("Reduce of %d by %d", p.W, p.H), got, e, reduceTold(p))
}

func TestP14_2Told(t *testing.T) {
	for _, z := range someSizes() {
		for _, p := range somePlanes(z[0], z[1]) {
			checkReduceTold(t, p)
		}
	}
}

func TestP14_2GreatSizes(t *testing.T) {
	for _, z := range greatSizes() {
		next := chance(uint64(z[0]))
		checkReduceTold(t, filled(z[0], z[1], func() uint32 { return near(next) }))
	}
}

func TestP14_2Sizes(t *testing.T) {
	for n := 1; n <= api.MaxSide; n++ {
		across, down := must(pyramid.Reduce(allOf(n, 1, one))), must(pyramid.Reduce(allOf(1, n, one)))
		if m := halfTold(n); across.W != m || across.H != 1 || len(across.S) != m || down.W != 1 || down.H != m || len(down.S) != m {
			t.Errorf("of %d: %d by %d and %d by %d", n, across.W, across.H, down.W, down.H)
		}
	}
}

// Places beyond are clamped, to both sides: of a line 16, 32, 48 ..
func TestP14_2Edges(t *testing.T) {
	for _, c := range []struct{ line, want []uint32 }{
		{whole(16), whole(16)},
		{whole(16, 32), whole(21)}, // 11, 5
		{whole(16, 32, 64), whole(23, 53)},
		{whole(16, 32, 64, 128), whole(23, 73)},
		{whole(0, 0, 0, 0, 16), whole(0, 1, 11)},
		{whole(0, 0, 0, 16, 0), whole(0, 4, 4)},
		{whole(0, 0, 16, 0, 0), whole(1, 6, 1)},
		{whole(0, 16, 0, 0, 0), whole(4, 4, 0)},
		{whole(16, 0, 0, 0, 0), whole(11, 1, 0)},
		{whole(0, 0, 0, 16), whole(0, 5)},
		{whole(0, 0, 16, 0), whole(1, 6)},
	} {
		got, e := pyramid.Reduce(rowOf(c.line...))
		checkPlane(t, "a row", got, e, rowOf(c.want...))
		got, e = pyramid.Reduce(columnOf(c.line...))
		checkPlane(t, "a column", got, e, columnOf(c.want...))
	}
}

// What stands between is rounded to samples, of the rows first: of two columns and two rows the answer is 11 and 5 parts of what the rows are, and these likewise.
func TestP14_2BetweenAreSamples(t *testing.T) {
	for _, c := range []struct {
		p    api.Plane
		want uint32
	}{
		{planeOf(2, 2, one, one+2, one+1, one), one + 1},          // of the rows twice the next one; columns first: 1, and the next one, of which 1 is told
		{planeOf(2, 2, one, one+1, one+1, one+2), one},            // 1, and the next one; of all four at once: the next one
		{planeOf(2, 2, leastSmall, 0, leastSmall, 0), leastSmall}, // 11 parts are rounded up
		{planeOf(2, 2, 0, leastSmall, 0, leastSmall), 0},          // 5 parts are lost
		{planeOf(2, 2, infinity, infinity, infinity|sign, 0), made},
	} {
		got, e := pyramid.Reduce(c.p)
		checkPlane(t, "Reduce", got, e, rowOf(c.want))
	}
}

func TestP14_2Refused(t *testing.T) {
	for _, c := range refusedPlanes() {
		got, e := pyramid.Reduce(c.p)
		checkNone(t, "Reduce", got, e, c.want)
	}
}
