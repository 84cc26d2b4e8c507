package region_test

import (
	"fmt"
	"math"
	"math/rand"
	"slices"
	"testing"

	"halide/api"
	"halide/region"
)

func TestP6_4Has(t *testing.T) {
	for _, l := range some() {
		all := placesOf(l)
		for y := -far; y <= far; y++ {
			for x := -far; x <= far; x++ {
				if got := region.Has(l, x, y); got != all[place{x, y}] {
					t.Fatalf("Has(%v, %d, %d): %v", l, x, y, got)
				}
			}
		}
	}
}

// Also of lists that aren't right.
func TestP6_4HasOfAnyList(t *testing.T) {
	whole := rectOf(math.MinInt, math.MinInt, math.MaxInt, math.MaxInt)
	for i, c := range []struct {
		l    []api.Rect
		x, y int
		want bool
	}{
		{list(rectOf(0, 0, 1<<40, 1)), 1 << 39, 0, true},
		{list(rectOf(0, 0, 1<<40, 1)), 1 << 40, 0, false},
		{list(whole), math.MinInt, math.MinInt, true},
		{list(whole), math.MaxInt - 1, math.MaxInt - 1, true},
		{list(whole), math.MaxInt, 0, false},
		{list(whole), 0, math.MaxInt, false},
		{append(copies(rectOf(0, 0, 1, 1), 5000), rectOf(7, 7, 8, 8)), 7, 7, true},
		{append(copies(rectOf(0, 0, 1, 1), 5000), rectOf(7, 7, 8, 8)), 7, 8, false},
		{without(), 0, 0, false},
		{without(), math.MinInt, math.MinInt, false},
		{without(), math.MaxInt, math.MaxInt, false},
		{list(rectOf(-8193, 0, -8192, 1)), -8193, 0, true},
	} {
		if got := region.Has(c.l, c.x, c.y); got != c.want {
			t.Errorf("row %d: %v", i, got)
		}
	}
}

func TestP6_4Count(t *testing.T) {
	for _, l := range some() {
		if n := count(t, l); n != len(placesOf(l)) {
			t.Errorf("Count(%v): %d", l, n)
		}
	}
	for i, c := range []struct {
		l    []api.Rect
		want int
	}{
		{nil, 0},
		{without(), 0},
		{list(rectOf(-8192, -8192, 8192, 8192)), 1 << 28},
		{copies(rectOf(-8192, -8192, 8192, 8192), 4096), 1 << 28},
		{steps(4096), 4096},
		{bars(4096), 4096 * 8192},
		{lines(4096), 4096 * 8192},
		{grate(2048, 2048), 2*2048*8192 - 2048*2048},
		{grate(1, 4095), 4096*8192 - 4095},
	} {
		if n := count(t, c.l); n != c.want {
			t.Errorf("row %d: %d, want %d", i, n, c.want)
		}
	}
}

func TestP6_4SameAndWithin(t *testing.T) {
	all := some()
	for _, a := range all {
		pa := placesOf(a)
		for _, b := range all {
			wantSame, wantWithin := len(chosen(a, b, func(inA, inB bool) bool { return inA != inB })) == 0, true
			pb := placesOf(b)
			for p := range pa {
				wantWithin = wantWithin && pb[p]
			}
			if same, e := region.Same(a, b); same != wantSame || e != api.OK {
				t.Fatalf("Same(%v, %v): %v, %d", a, b, same, e)
			}
			if within, e := region.Within(a, b); within != wantWithin || e != api.OK {
				t.Fatalf("Within(%v, %v): %v, %d", a, b, within, e)
			}
		}
	}
}

func TestP6_4SameOfOtherLists(t *testing.T) {
	r := rand.New(rand.NewSource(66))
	for _, a := range some() {
		b := shuffled(r, a)
		if same, e := region.Same(a, b); !same || e != api.OK {
			t.Fatalf("Same(%v, %v): %v, %d", a, b, same, e)
		}
		less := append(slices.Clone(b), rectOf(far, far, far+1, far+1))
		if same, e := region.Same(less, b); same || e != api.OK {
			t.Fatalf("Same(%v, %v): %v, %d", less, b, same, e)
		}
	}
}

// Lists whose normal forms have too many rectangles are right all the same.
func TestP6_4SameAndWithinOfMany(t *testing.T) {
	a := grate(2000, 2000)
	b := append(lines(2000), bars(2000)...)
	more := append(slices.Clone(b), rectOf(1, 1, 2, 2), rectOf(8191, 8191, 8192, 8192))
	for i, c := range []struct {
		a, b         []api.Rect
		same, within bool
	}{
		{a, b, true, true}, {a, more, false, true}, {more, a, false, false}, {nil, a, false, true}, {a, nil, false, false}, {bars(4096), lines(4096), false, false},
	} {
		if same, e := region.Same(c.a, c.b); same != c.same || e != api.OK {
			t.Errorf("row %d: Same: %v, %d", i, same, e)
		}
		if within, e := region.Within(c.a, c.b); within != c.within || e != api.OK {
			t.Errorf("row %d: Within: %v, %d", i, within, e)
		}
	}
}

func TestP6_4Bounds(t *testing.T) {
	for _, l := range append(some(), without()) {
		var want api.Rect
		some := false
		for p := range placesOfSmall(l) {
			if !some {
				want, some = rectOf(p.x, p.y, p.x+1, p.y+1), true
			}
			want = rectOf(min(want.X0, p.x), min(want.Y0, p.y), max(want.X1, p.x+1), max(want.Y1, p.y+1))
		}
		if got, ok := region.Bounds(l); got != want || ok != some {
			t.Errorf("Bounds(%v): %v, %v, want %v, %v", l, got, ok, want, some)
		}
	}
	edge := list(rectOf(-8192, 0, -8191, 1), rectOf(8191, 0, 8192, 1), rectOf(0, -8192, 1, -8191), rectOf(0, 8191, 1, 8192))
	if got, ok := region.Bounds(edge); got != rectOf(-8192, -8192, 8192, 8192) || !ok {
		t.Errorf("Bounds: %v, %v", got, ok)
	}
	if got, ok := region.Bounds(grate(2048, 2048)); got != rectOf(-4096, -4096, 4096, 4096) || !ok {
		t.Errorf("Bounds of many: %v, %v", got, ok)
	}
}

// placesOfSmall: as placesOf, of a list in which great numbers stand in rectangles without a place alone.
func placesOfSmall(l []api.Rect) map[place]bool {
	return placesOf(slices.DeleteFunc(slices.Clone(l), func(r api.Rect) bool { return r.X0 >= r.X1 || r.Y0 >= r.Y1 }))
}

func TestP6_4BoundsOfWrongLists(t *testing.T) {
	for i, c := range refusedLists() {
		if got, ok := region.Bounds(c.l); got != (api.Rect{}) || ok {
			t.Errorf("list %d: %v, %v", i, got, ok)
		}
	}
}

// spared: a list with spare room behind it, which has something.
func spared(l []api.Rect) []api.Rect {
	whole := append(slices.Clone(l), rectOf(1, 2, 3, 4), rectOf(-5, -6, 7, 8), rectOf(9, 9, 0, 0))
	return whole[:len(l)]
}

func wholeOf(l []api.Rect) []api.Rect { return slices.Clone(l[:cap(l)]) }

// What is handed in stays as it is, its spare room too; answers share no memory with it or with each other.
func TestHandedInAndAnswered(t *testing.T) {
	for _, l := range some() {
		a, b := spared(l), spared(list(rectOf(2, 2, 5, 5), rectOf(0, 0, 3, 3)))
		wasA, wasB := wholeOf(a), wholeOf(b)
		calls := []func() []api.Rect{
			func() []api.Rect { return must(region.Of(a)) },
			func() []api.Rect { return must(region.Union(a, b)) },
			func() []api.Rect { return must(region.Union(b, a)) },
			func() []api.Rect { return must(region.Meet(a, b)) },
			func() []api.Rect { return must(region.Less(a, b)) },
			func() []api.Rect { return must(region.Shift(a, 0, 0)) },
			func() []api.Rect { return must(region.Shift(a, 1, 2)) },
			func() []api.Rect { return must(region.Grow(a, 0, 0, 0, 0)) },
			func() []api.Rect { return must(region.Grow(a, 1, 2, 3, 4)) },
			func() []api.Rect { count(t, a); return nil },
			func() []api.Rect { region.Same(a, b); return nil },
			func() []api.Rect { region.Within(a, b); return nil },
			func() []api.Rect { region.Bounds(a); region.Has(a, 0, 0); return nil },
		}
		for i, call := range calls {
			first := call()
			kept := slices.Clone(first)
			second := call()
			for k := range second[:cap(second)] {
				second[:cap(second)][k] = rectOf(-1, -1, 99, 99)
			}
			if !slices.Equal(first, kept) || !slices.Equal(wholeOf(a), wasA) || !slices.Equal(wholeOf(b), wasB) {
				t.Fatalf("call %d of %v: something else has changed", i, l)
			}
			if third := call(); !slices.Equal(third, kept) {
				t.Fatalf("call %d of %v: %v, then %v", i, l, fmt.Sprint(kept), third)
			}
		}
	}
}
