package region_test

import (
	"math"
	"math/rand"
	"slices"
	"testing"

	"halide/api"
	"halide/region"
)

func rectOf(x0, y0, x1, y1 int) api.Rect { return api.Rect{X0: x0, Y0: y0, X1: x1, Y1: y1} }

func list(l ...api.Rect) []api.Rect { return l }

type place struct{ x, y int }

// placesOf: the places of a list by the chapter's words, one by one. For small numbers.
func placesOf(l []api.Rect) map[place]bool {
	all := map[place]bool{}
	for _, r := range l {
		for y := r.Y0; y < r.Y1; y++ {
			for x := r.X0; x < r.X1; x++ {
				all[place{x, y}] = true
			}
		}
	}
	return all
}

// chosen: the places of either list of which ask says yes.
func chosen(a, b []api.Rect, ask func(inA, inB bool) bool) map[place]bool {
	pa, pb, all := placesOf(a), placesOf(b), map[place]bool{}
	for _, one := range []map[place]bool{pa, pb} {
		for p := range one {
			if ask(pa[p], pb[p]) {
				all[p] = true
			}
		}
	}
	return all
}

// edge of what told looks at: places from -far to far - 1.
const far = 40

// told: the normal form of a set of places by P6.1's words: row by row, each row's places taken together from the left, then rows with those of the row above.
func told(all map[place]bool) []api.Rect {
	var l, above []api.Rect
	for y := -far; y < far; y++ {
		here := toldRow(all, y)
		if len(here) > 0 && isSameRow(above, here) {
			for i := range here {
				l[len(l)-len(here)+i].Y1 = y + 1
			}
		} else {
			l = append(l, here...)
		}
		above = here
	}
	return l
}

func toldRow(all map[place]bool, y int) []api.Rect {
	var l []api.Rect
	for x := -far; x < far; x++ {
		if !all[place{x, y}] {
			continue
		}
		if all[place{x - 1, y}] {
			l[len(l)-1].X1 = x + 1
		} else {
			l = append(l, rectOf(x, y, x+1, y+1))
		}
	}
	return l
}

func isSameRow(a, b []api.Rect) bool {
	return slices.EqualFunc(a, b, func(p, q api.Rect) bool { return p.X0 == q.X0 && p.X1 == q.X1 })
}

// named: lists by hand: touching, overlapping, within one another, twice, in bands of the same places and of others, with rows between, without places.
func named() [][]api.Rect {
	return [][]api.Rect{
		nil,
		{},
		list(rectOf(0, 0, 0, 0)),
		list(rectOf(0, 0, 1, 1)),
		list(rectOf(-3, -2, 4, 5)),
		list(rectOf(0, 0, 2, 2), rectOf(0, 0, 2, 2)),
		list(rectOf(0, 0, 2, 2), rectOf(0, 0, 2, 2), rectOf(0, 0, 2, 2), rectOf(2, 0, 3, 2)),
		list(rectOf(0, 0, 2, 2), rectOf(2, 0, 4, 2)),
		list(rectOf(2, 0, 4, 2), rectOf(0, 0, 2, 2)),
		list(rectOf(0, 0, 2, 2), rectOf(0, 2, 2, 4)),
		list(rectOf(0, 2, 2, 4), rectOf(0, 0, 2, 2)),
		list(rectOf(0, 0, 2, 2), rectOf(2, 2, 4, 4)),
		list(rectOf(2, 0, 4, 2), rectOf(0, 2, 2, 4)),
		list(rectOf(0, 0, 2, 2), rectOf(1, 1, 3, 3)),
		list(rectOf(1, 0, 3, 2), rectOf(0, 1, 2, 3)),
		list(rectOf(0, 0, 5, 5), rectOf(1, 1, 4, 4)),
		list(rectOf(1, 1, 4, 4), rectOf(0, 0, 5, 5)),
		list(rectOf(0, 0, 5, 5), rectOf(0, 0, 5, 3), rectOf(3, 0, 5, 5)),
		list(rectOf(0, 0, 1, 9), rectOf(2, 0, 3, 9), rectOf(1, 3, 2, 6)),
		list(rectOf(0, 0, 9, 1), rectOf(0, 2, 9, 3), rectOf(3, 1, 6, 2)),
		list(rectOf(0, 0, 2, 1), rectOf(0, 2, 2, 3)),
		list(rectOf(0, 0, 2, 1), rectOf(0, 5, 2, 9), rectOf(0, 1, 2, 2)),
		list(rectOf(0, 0, 1, 1), rectOf(2, 0, 3, 1), rectOf(0, 1, 1, 2), rectOf(2, 1, 3, 2)),
		list(rectOf(0, 0, 1, 2), rectOf(2, 0, 3, 1), rectOf(2, 1, 4, 2)),
		list(rectOf(0, 0, 4, 1), rectOf(0, 1, 1, 2), rectOf(1, 1, 2, 2), rectOf(2, 1, 4, 2)),
		list(rectOf(4, 0, 5, 1), rectOf(0, 0, 1, 1), rectOf(0, 0, 1, 1)),
		list(rectOf(-9, -9, -8, 9), rectOf(-9, -9, 9, -8), rectOf(8, -9, 9, 9), rectOf(-9, 8, 9, 9)),
		list(rectOf(3, 3, 3, 9), rectOf(3, 3, 9, 3), rectOf(0, 0, 1, 1), rectOf(5, 5, 4, 9), rectOf(5, 5, 9, 4)),
	}
}

// byChance: lists of rectangles of small numbers, some of them without a place.
func byChance(r *rand.Rand, most, size int) []api.Rect {
	l := make([]api.Rect, r.Intn(most+1))
	for i := range l {
		x, y := r.Intn(2*size)-size, r.Intn(2*size)-size
		l[i] = rectOf(x, y, x+r.Intn(size)-1, y+r.Intn(size)-1)
	}
	return l
}

// some: the named lists, and others.
func some() [][]api.Rect {
	r, l := rand.New(rand.NewSource(60)), named()
	for i := range 40 {
		l = append(l, byChance(r, 1+i/4, 3+i/6))
	}
	return l
}

// shuffled: the same rectangles in another order, some twice, with some that have no place.
func shuffled(r *rand.Rand, l []api.Rect) []api.Rect {
	m := append(slices.Clone(l), without()[r.Intn(len(without()))])
	if len(l) > 0 {
		m = append(m, l[r.Intn(len(l))])
	}
	r.Shuffle(len(m), func(i, j int) { m[i], m[j] = m[j], m[i] })
	return m
}

// without: rectangles without a place, of whatever numbers.
func without() []api.Rect {
	return []api.Rect{
		{}, rectOf(5, 0, 5, 9), rectOf(0, 5, 9, 5), rectOf(5, 0, 4, 9), rectOf(0, 5, 9, 4), rectOf(1, 1, 0, 0),
		rectOf(1<<40, 0, 0, 0), rectOf(8193, 0, 8193, 1), rectOf(0, -8193, 1, -8193), rectOf(-9000, 3, 9000, 3), rectOf(3, -9000, 3, 9000),
		rectOf(math.MinInt, 0, math.MaxInt, 0), rectOf(0, math.MinInt, 0, math.MaxInt), rectOf(math.MaxInt, 0, math.MinInt, 1), rectOf(0, math.MaxInt, 1, math.MinInt),
		rectOf(math.MinInt, math.MinInt, math.MinInt, math.MinInt), rectOf(math.MaxInt, math.MaxInt, math.MaxInt, math.MaxInt),
		rectOf(math.MinInt, math.MaxInt, math.MaxInt, math.MinInt),
	}
}

// copies: n times the same one.
func copies(r api.Rect, n int) []api.Rect { return slices.Repeat(list(r), n) }

// grate: bars from top to bottom, and bars from left to right, so that they make many rectangles in a normal form.
func grate(down, across int) []api.Rect { return append(bars(down), lines(across)...) }

func bars(n int) []api.Rect {
	var l []api.Rect
	for i := range n {
		l = append(l, rectOf(2*i-4096, -4096, 2*i-4095, 4096))
	}
	return l
}

func lines(n int) []api.Rect {
	var l []api.Rect
	for i := range n {
		l = append(l, rectOf(-4096, 2*i-4096, 4096, 2*i-4095))
	}
	return l
}

// steps: n rectangles that are their own normal form.
func steps(n int) []api.Rect {
	var l []api.Rect
	for i := range n {
		l = append(l, rectOf(i-n/2, i-n/2, i-n/2+1, i-n/2+1))
	}
	return l
}

func checkList(t *testing.T, what string, got []api.Rect, e api.Errno, want []api.Rect) {
	t.Helper()
	if e != api.OK || !slices.Equal(got, want) {
		if len(got) > 40 || len(want) > 40 {
			t.Fatalf("%s: %d, %d rectangles, want %d (or others)", what, e, len(got), len(want))
		}
		t.Fatalf("%s: %d, %v, want %v", what, e, got, want)
	}
}

// checkNone: an error, and nothing beside it.
func checkNone(t *testing.T, what string, got []api.Rect, e, want api.Errno) {
	t.Helper()
	if e != want || len(got) != 0 {
		t.Fatalf("%s: %d rectangles, error %d, want %d", what, len(got), e, want)
	}
}

// must: of a call that is known to be right.
func must(l []api.Rect, e api.Errno) []api.Rect {
	if e != api.OK {
		panic(e)
	}
	return l
}

func count(t *testing.T, l []api.Rect) int {
	t.Helper()
	n, e := region.Count(l)
	if e != api.OK {
		t.Fatalf("Count of %d rectangles: %d", len(l), e)
	}
	return n
}
