package region_test

import (
	"fmt"
	"math"
	"math/rand"
	"slices"
	"testing"

	"halide/api"
	"halide/region"
)

func TestP6_1NormalForm(t *testing.T) {
	for i, c := range []struct{ l, want []api.Rect }{
		{nil, nil},
		{list(rectOf(0, 0, 2, 2), rectOf(2, 0, 4, 2)), list(rectOf(0, 0, 4, 2))},
		{list(rectOf(0, 2, 2, 4), rectOf(0, 0, 2, 2)), list(rectOf(0, 0, 2, 4))},
		{list(rectOf(0, 0, 2, 1), rectOf(0, 2, 2, 3)), list(rectOf(0, 0, 2, 1), rectOf(0, 2, 2, 3))},
		{list(rectOf(2, 0, 3, 9), rectOf(0, 0, 1, 9), rectOf(1, 3, 2, 6)), list(rectOf(0, 0, 1, 3), rectOf(2, 0, 3, 3), rectOf(0, 3, 3, 6), rectOf(0, 6, 1, 9), rectOf(2, 6, 3, 9))},
		{list(rectOf(2, 1, 3, 2), rectOf(0, 1, 1, 2), rectOf(2, 0, 3, 1), rectOf(0, 0, 1, 1)), list(rectOf(0, 0, 1, 2), rectOf(2, 0, 3, 2))},
		{list(rectOf(0, 0, 3, 1), rectOf(0, 1, 1, 2), rectOf(1, 1, 3, 2)), list(rectOf(0, 0, 3, 2))},
		{list(rectOf(5, 5, 6, 6), rectOf(-5, -5, -4, -4)), list(rectOf(-5, -5, -4, -4), rectOf(5, 5, 6, 6))},
	} {
		got, e := region.Of(c.l)
		checkList(t, fmt.Sprint("row ", i), got, e, c.want)
	}
}

// A normal form's marks, one by one: places in every rectangle and none in two; bands from the top, each from the left, as wide and as high as can be.
func TestP6_1Marks(t *testing.T) {
	for _, l := range some() {
		form := must(region.Of(l))
		for i, r := range form {
			if r.X0 >= r.X1 || r.Y0 >= r.Y1 {
				t.Fatalf("Of(%v): %v has no place", l, r)
			}
			if i == 0 {
				continue
			}
			p := form[i-1]
			inBand, below := p.Y0 == r.Y0 && p.Y1 == r.Y1 && p.X1 < r.X0, p.Y1 <= r.Y0
			if !inBand && !below {
				t.Fatalf("Of(%v): %v stands behind %v", l, r, p)
			}
		}
		for i := 0; i < len(form); {
			n := bandAt(form, i)
			if m := bandAt(form, i+n); n == m && form[i].Y1 == form[i+n].Y0 && isSameRow(form[i:i+n], form[i+n:i+n+m]) {
				t.Fatalf("Of(%v): two bands of the same places: %v", l, form[i:])
			}
			i += n
		}
	}
}

// bandAt: how many rectangles the band has that begins with the rectangle i; 0 at the end.
func bandAt(form []api.Rect, i int) int {
	n := 0
	for i+n < len(form) && form[i+n].Y0 == form[i].Y0 {
		n++
	}
	return n
}

func TestP6_3Of(t *testing.T) {
	for _, l := range some() {
		got, e := region.Of(l)
		checkList(t, fmt.Sprintf("Of(%v)", l), got, e, told(placesOf(l)))
	}
}

func TestP6_3OfByChance(t *testing.T) {
	r := rand.New(rand.NewSource(63))
	for i := range 600 {
		l := byChance(r, 1+i/20, 2+i%18)
		got, e := region.Of(l)
		checkList(t, fmt.Sprintf("Of(%v)", l), got, e, told(placesOf(l)))
	}
}

type putCase struct {
	name string
	call func(a, b []api.Rect) ([]api.Rect, api.Errno)
	ask  func(inA, inB bool) bool
}

func puts() []putCase {
	return []putCase{
		{"Union", region.Union, func(inA, inB bool) bool { return inA || inB }},
		{"Meet", region.Meet, func(inA, inB bool) bool { return inA && inB }},
		{"Less", region.Less, func(inA, inB bool) bool { return inA && !inB }},
	}
}

func TestP6_3Puts(t *testing.T) {
	for _, a := range some() {
		for _, b := range named() {
			for _, c := range puts() {
				got, e := c.call(a, b)
				checkList(t, fmt.Sprintf("%s(%v, %v)", c.name, a, b), got, e, told(chosen(a, b, c.ask)))
			}
		}
	}
}

func TestP6_3PutsByChance(t *testing.T) {
	r := rand.New(rand.NewSource(64))
	for i := range 400 {
		size := 2 + i%18
		a, b := byChance(r, 1+i/20, size), byChance(r, 1+i/30, size)
		for _, c := range puts() {
			got, e := c.call(a, b)
			checkList(t, fmt.Sprintf("%s(%v, %v)", c.name, a, b), got, e, told(chosen(a, b, c.ask)))
		}
	}
}

// spread: a list with each small number in the place of a number of a rising list.
func spread(l []api.Rect, at func(int) int) []api.Rect {
	m := make([]api.Rect, len(l))
	for i, r := range l {
		m[i] = rectOf(at(r.X0), at(r.Y0), at(r.X1), at(r.Y1))
	}
	return m
}

// Up to the edges: what is told of small numbers holds of any numbers that rise like them.
func TestP6_3PutsFarOut(t *testing.T) {
	r := rand.New(rand.NewSource(65))
	for range 200 {
		a, b := byChance(r, 12, 4), byChance(r, 12, 4)
		numbers := []int{-8192, 8192}
		for len(numbers) < 16 {
			if n := r.Intn(16383) - 8191; !slices.Contains(numbers, n) {
				numbers = append(numbers, n)
			}
		}
		slices.Sort(numbers)
		at := func(i int) int { return numbers[min(max(i+6, 0), 15)] }
		for _, c := range puts() {
			got, e := c.call(spread(a, at), spread(b, at))
			checkList(t, c.name, got, e, spread(told(chosen(a, b, c.ask)), at))
		}
	}
}

func toldShift(l []api.Rect, dx, dy int) []api.Rect {
	all := map[place]bool{}
	for p := range placesOf(l) {
		all[place{p.x + dx, p.y + dy}] = true
	}
	return told(all)
}

func TestP6_3Shift(t *testing.T) {
	for _, l := range some() {
		for _, d := range [][2]int{{0, 0}, {1, 0}, {0, 1}, {-1, 0}, {0, -1}, {7, -5}, {-9, 9}} {
			got, e := region.Shift(l, d[0], d[1])
			checkList(t, fmt.Sprintf("Shift(%v) by %v", l, d), got, e, toldShift(l, d[0], d[1]))
		}
	}
}

func toldGrow(l []api.Rect, left, top, right, bottom int) []api.Rect {
	all := map[place]bool{}
	for p := range placesOf(l) {
		for j := -top; j <= bottom; j++ {
			for i := -left; i <= right; i++ {
				all[place{p.x + i, p.y + j}] = true
			}
		}
	}
	return told(all)
}

func TestP6_3Grow(t *testing.T) {
	for _, l := range some() {
		for _, d := range [][4]int{{}, {1, 0, 0, 0}, {0, 1, 0, 0}, {0, 0, 1, 0}, {0, 0, 0, 1}, {1, 1, 1, 1}, {1, 2, 3, 4}, {4, 0, 2, 1}} {
			got, e := region.Grow(l, d[0], d[1], d[2], d[3])
			checkList(t, fmt.Sprintf("Grow(%v) by %v", l, d), got, e, toldGrow(l, d[0], d[1], d[2], d[3]))
		}
	}
}

// From edge to edge, and on to it.
func TestP6_3FarMoves(t *testing.T) {
	one := list(rectOf(-8192, -8192, -8191, -8191))
	got, e := region.Shift(one, 16383, 16383)
	checkList(t, "Shift", got, e, list(rectOf(8191, 8191, 8192, 8192)))
	got, e = region.Shift(got, -16383, -16383)
	checkList(t, "Shift back", got, e, one)
	got, e = region.Grow(one, 0, 0, 16383, 16383)
	checkList(t, "Grow", got, e, list(rectOf(-8192, -8192, 8192, 8192)))
	got, e = region.Grow(list(rectOf(8191, 8191, 8192, 8192)), 16383, 16383, 0, 0)
	checkList(t, "Grow", got, e, list(rectOf(-8192, -8192, 8192, 8192)))
	got, e = region.Grow(list(rectOf(0, 0, 1, 1), rectOf(1, 1, 2, 2)), 8192, 8192, 8190, 8190)
	checkList(t, "Grow", got, e, list(rectOf(-8192, -8192, 8191, -8191), rectOf(-8192, -8191, 8192, 8191), rectOf(-8191, 8191, 8192, 8192)))
}

// A region without places may go anywhere, and grow by as much as Grow takes.
func TestP6_3MovesOfNoPlace(t *testing.T) {
	for _, l := range [][]api.Rect{nil, {}, without()} {
		for _, d := range []int{0, 1, -1, 8192, 16384, 16385, -16385, 1 << 62, math.MaxInt, math.MinInt} {
			got, e := region.Shift(l, d, 0)
			checkList(t, "Shift", got, e, nil)
			got, e = region.Shift(l, 0, d)
			checkList(t, "Shift", got, e, nil)
		}
		got, e := region.Grow(l, 16384, 16384, 16384, 16384)
		checkList(t, "Grow", got, e, nil)
		got, e = region.Grow(l, 0, 0, 0, 0)
		checkList(t, "Grow", got, e, nil)
	}
}
