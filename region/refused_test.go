package region_test

import (
	"fmt"
	"math"
	"slices"
	"testing"

	"halide/api"
	"halide/region"
)

type refused struct {
	l    []api.Rect
	want api.Errno
}

// refusedLists: lists that aren't right, with the error of each.
func refusedLists() []refused {
	all := []refused{
		{make([]api.Rect, 4097), api.ErrRegionMany},
		{copies(rectOf(0, 0, 1, 1), 4097), api.ErrRegionMany},
		{copies(rectOf(0, 0, 1, 1), 10000), api.ErrRegionMany},
		{copies(rectOf(0, 0, 9000, 1), 4097), api.ErrRegionMany},
		{append(steps(4096), rectOf(3, 3, 2, 2)), api.ErrRegionMany},
		{append(steps(4095), rectOf(0, 0, 8193, 1)), api.ErrRegionFar},
		{append(without(), rectOf(0, -8193, 1, 0)), api.ErrRegionFar},
	}
	for _, r := range farOnes() {
		all = append(all, refused{list(r), api.ErrRegionFar}, refused{list(rectOf(0, 0, 1, 1), r), api.ErrRegionFar}, refused{list(r, rectOf(0, 0, 1, 1)), api.ErrRegionFar})
	}
	return all
}

// farOnes: rectangles with a place, and with a number too far out.
func farOnes() []api.Rect {
	return []api.Rect{
		rectOf(-8193, 0, 1, 1), rectOf(0, -8193, 1, 1), rectOf(0, 0, 8193, 1), rectOf(0, 0, 1, 8193),
		rectOf(-8193, 0, -8192, 1), rectOf(0, -8193, 1, -8192), rectOf(8192, 0, 8193, 1), rectOf(0, 8192, 1, 8193),
		rectOf(math.MinInt, 0, 1, 1), rectOf(0, math.MinInt, 1, 1), rectOf(0, 0, math.MaxInt, 1), rectOf(0, 0, 1, math.MaxInt),
		rectOf(math.MinInt, math.MinInt, math.MaxInt, math.MaxInt), rectOf(math.MaxInt-1, 0, math.MaxInt, 1), rectOf(0, math.MinInt, 1, math.MinInt+1),
		rectOf(-8193, -8193, 8193, 8193),
	}
}

func TestP6_2RightLists(t *testing.T) {
	for i, c := range []struct{ l, want []api.Rect }{
		{nil, nil},
		{without(), nil},
		{make([]api.Rect, 4096), nil},
		{copies(rectOf(-8192, -8192, 8192, 8192), 4096), list(rectOf(-8192, -8192, 8192, 8192))},
		{list(rectOf(-8192, -8192, -8191, -8191), rectOf(8191, 8191, 8192, 8192)), list(rectOf(-8192, -8192, -8191, -8191), rectOf(8191, 8191, 8192, 8192))},
		{steps(4096), steps(4096)},
		{append(without(), steps(4000)...), steps(4000)},
	} {
		got, e := region.Of(c.l)
		checkList(t, fmt.Sprint("row ", i), got, e, c.want)
	}
}

func TestP6_2FirstList(t *testing.T) {
	for i, c := range refusedLists() {
		what := fmt.Sprint("list ", i)
		got, e := region.Of(c.l)
		checkNone(t, what, got, e, c.want)
		got, e = region.Shift(c.l, 0, 0)
		checkNone(t, what, got, e, c.want)
		got, e = region.Grow(c.l, 0, 0, 0, 0)
		checkNone(t, what, got, e, c.want)
		if n, e := region.Count(c.l); n != 0 || e != c.want {
			t.Errorf("%s: Count: %d, %d", what, n, e)
		}
	}
}

type twoLists struct {
	name string
	call func(a, b []api.Rect) (bool, api.Errno)
}

// twos: all calls of two lists, with whether they answered anything.
func twos() []twoLists {
	all := []twoLists{{"Same", region.Same}, {"Within", region.Within}}
	for _, c := range puts() {
		all = append(all, twoLists{c.name, func(a, b []api.Rect) (bool, api.Errno) {
			l, e := c.call(a, b)
			return len(l) > 0, e
		}})
	}
	return all
}

func TestP6_2TwoLists(t *testing.T) {
	right := list(rectOf(0, 0, 2, 2))
	for i, c := range refusedLists() {
		for _, call := range twos() {
			for _, ok := range [][]api.Rect{nil, right} {
				if some, e := call.call(c.l, ok); some || e != c.want {
					t.Errorf("list %d: %s: %v, %d, want %d", i, call.name, some, e, c.want)
				}
				if some, e := call.call(ok, c.l); some || e != c.want {
					t.Errorf("list %d, as the second: %s: %v, %d, want %d", i, call.name, some, e, c.want)
				}
			}
			for k, d := range refusedLists() {
				if some, e := call.call(c.l, d.l); some || e != c.want {
					t.Errorf("lists %d and %d: %s: %v, %d, want %d", i, k, call.name, some, e, c.want)
				}
			}
		}
	}
}

// Answers of just as many rectangles as there may be, and of one more.
func TestP6_2ManyAnswered(t *testing.T) {
	got, e := region.Meet(bars(64), lines(64))
	if len(got) != 4096 || e != api.OK {
		t.Errorf("Meet: %d rectangles, %d", len(got), e)
	}
	got, e = region.Union(steps(4096), nil)
	checkList(t, "Union", got, e, steps(4096))
	got, e = region.Union(steps(4095), list(rectOf(-4096, 3000, -4095, 3001)))
	if len(got) != 4096 || e != api.OK {
		t.Errorf("Union: %d rectangles, %d", len(got), e)
	}
	got, e = region.Union(steps(4096), list(rectOf(-4096, 3000, -4095, 3001)))
	checkNone(t, "Union", got, e, api.ErrRegionMany)
	got, e = region.Meet(bars(64), append(lines(64), rectOf(-4096, 4000, -4095, 4001)))
	checkNone(t, "Meet", got, e, api.ErrRegionMany)
	got, e = region.Less(list(rectOf(-8192, -8192, 8192, 8192)), steps(4096))
	checkNone(t, "Less", got, e, api.ErrRegionMany)
	got, e = region.Less(list(rectOf(-8192, -4096, -8191, 4096)), lines(4095))
	checkList(t, "Less of others", got, e, list(rectOf(-8192, -4096, -8191, 4096)))
	got, e = region.Less(list(rectOf(0, -4096, 1, 4096)), lines(4096))
	if len(got) != 4096 || e != api.OK {
		t.Errorf("Less: %d rectangles, %d", len(got), e)
	}
	got, e = region.Less(list(rectOf(0, -4097, 1, 4096)), lines(4096))
	checkNone(t, "Less", got, e, api.ErrRegionMany)
}

// A right list may have a normal form of more rectangles: then what would answer it is refused, and what asks about its places is not.
func TestP6_2ManyOfOneList(t *testing.T) {
	for _, l := range [][]api.Rect{grate(100, 100), grate(1, 4095), grate(2048, 2048), append(grate(64, 63), rectOf(0, 5000, 1, 5001), rectOf(2, 5000, 3, 5001))} {
		if form, e := region.Of(l); e == api.OK {
			t.Fatalf("Of: %d rectangles", len(form))
		}
		got, e := region.Of(l)
		checkNone(t, "Of", got, e, api.ErrRegionMany)
		got, e = region.Shift(l, 1, 1)
		checkNone(t, "Shift", got, e, api.ErrRegionMany)
		got, e = region.Grow(l, 0, 0, 0, 0)
		checkNone(t, "Grow", got, e, api.ErrRegionMany)
		got, e = region.Union(l, nil)
		checkNone(t, "Union", got, e, api.ErrRegionMany)
		got, e = region.Meet(l, l)
		checkNone(t, "Meet", got, e, api.ErrRegionMany)
		got, e = region.Union(l, list(rectOf(-4096, -4096, 4096, 5001)))
		checkList(t, "Union with all around", got, e, list(rectOf(-4096, -4096, 4096, 5001)))
		got, e = region.Less(l, l)
		checkList(t, "Less of itself", got, e, nil)
		got, e = region.Grow(l, 8, 0, 4000, 1)
		if len(got) == 0 || e != api.OK {
			t.Errorf("Grow to one: %d rectangles, %d", len(got), e)
		}
	}
}

// Too far out, whether there are too many or not.
func TestP6_2FarAheadOfMany(t *testing.T) {
	for _, l := range [][]api.Rect{grate(2048, 2048), list(rectOf(-4096, 4095, -4095, 4096), rectOf(4095, -4096, 4096, -4095))} {
		for _, d := range [][2]int{{4097, 0}, {-4097, 0}, {0, 4097}, {0, -4097}, {4097, -4097}} {
			got, e := region.Shift(l, d[0], d[1])
			checkNone(t, fmt.Sprint("Shift by ", d), got, e, api.ErrRegionFar)
		}
		for i := range 4 {
			var d [4]int
			d[i] = 4097
			got, e := region.Grow(l, d[0], d[1], d[2], d[3])
			checkNone(t, fmt.Sprint("Grow by ", d), got, e, api.ErrRegionFar)
		}
	}
	got, e := region.Shift(grate(2048, 2048), 4096, -4096)
	checkNone(t, "Shift to the edge", got, e, api.ErrRegionMany)
}

func TestP6_2ShiftByAnyNumbers(t *testing.T) {
	far := []int{8192, 8193, 16383, 16384, 16385, 1 << 31, 1 << 32, 1 << 62, math.MaxInt - 8192, math.MaxInt - 1, math.MaxInt}
	for _, d := range slices.Clone(far) {
		far = append(far, -d-1)
	}
	far = append(far, math.MinInt+1, math.MinInt+8192)
	for _, l := range [][]api.Rect{list(rectOf(-1, -1, 1, 1)), list(rectOf(-8192, -8192, 8192, 8192)), list(rectOf(-8192, -8192, -8191, -8191), rectOf(8191, 8191, 8192, 8192))} {
		for _, d := range far {
			got, e := region.Shift(l, d, 0)
			checkNone(t, fmt.Sprint("Shift across by ", d), got, e, api.ErrRegionFar)
			got, e = region.Shift(l, 0, d)
			checkNone(t, fmt.Sprint("Shift down by ", d), got, e, api.ErrRegionFar)
			for _, k := range far {
				got, e = region.Shift(l, d, k)
				checkNone(t, fmt.Sprint("Shift by ", d, k), got, e, api.ErrRegionFar)
			}
		}
	}
	low, high := list(rectOf(-8192, -8192, -8191, -8191)), list(rectOf(8191, 8191, 8192, 8192))
	for _, d := range []int{16384, 16385, math.MaxInt} {
		got, e := region.Shift(low, d, 0)
		checkNone(t, "Shift from the least", got, e, api.ErrRegionFar)
		got, e = region.Shift(low, 0, d)
		checkNone(t, "Shift from the least", got, e, api.ErrRegionFar)
		got, e = region.Shift(high, -d, 0)
		checkNone(t, "Shift from the greatest", got, e, api.ErrRegionFar)
		got, e = region.Shift(high, 0, -d)
		checkNone(t, "Shift from the greatest", got, e, api.ErrRegionFar)
	}
}

func TestP6_3GrowRefuses(t *testing.T) {
	for _, n := range []int{-1, -2, -16385, math.MinInt, math.MinInt + 1, 16385, 1 << 32, 1 << 62, math.MaxInt} {
		for _, l := range [][]api.Rect{nil, without(), list(rectOf(0, 0, 1, 1)), list(rectOf(0, 0, 9, 9)), grate(100, 100)} {
			for i := range 4 {
				var d [4]int
				d[i] = n
				got, e := region.Grow(l, d[0], d[1], d[2], d[3])
				checkNone(t, fmt.Sprint("Grow by ", d), got, e, api.ErrRegionFar)
			}
		}
		got, e := region.Grow(make([]api.Rect, 4097), n, n, n, n)
		checkNone(t, "the list's error ahead of Grow's own", got, e, api.ErrRegionMany)
	}
	for i := range 4 {
		var d [4]int
		d[i] = 16384
		got, e := region.Grow(nil, d[0], d[1], d[2], d[3])
		checkList(t, "Grow of nothing", got, e, nil)
		got, e = region.Grow(list(rectOf(0, 0, 1, 1)), d[0], d[1], d[2], d[3])
		checkNone(t, "Grow beyond", got, e, api.ErrRegionFar)
	}
}
