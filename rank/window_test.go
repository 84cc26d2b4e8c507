package rank_test

import (
	"fmt"
	"testing"

	"halide/api"
	"halide/rank"
)

// Where a window lies, by hand: of an even side one place more lies ahead.
func TestP12_1WindowByHand(t *testing.T) {
	row := rowOf(one, two, three, four)
	for _, c := range []struct {
		border, w, k int
		want         api.Plane
	}{
		{api.Clamp, 2, 0, rowOf(one, one, two, three)},
		{api.Clamp, 2, 1, rowOf(one, two, three, four)},
		{api.Mirror, 2, 1, rowOf(two, two, three, four)},
		{api.Wrap, 2, 1, rowOf(four, two, three, four)},
		{api.Clamp, 3, 0, rowOf(one, one, two, three)},
		{api.Clamp, 3, 2, rowOf(two, three, four, four)},
		{api.Mirror, 3, 0, rowOf(one, one, two, three)},
		{api.Mirror, 3, 1, rowOf(two, two, three, three)},
		{api.Wrap, 3, 0, rowOf(one, one, two, one)},
		{api.Wrap, 3, 2, rowOf(four, three, four, four)},
		{api.Clamp, 4, 0, rowOf(one, one, one, two)},
		{api.Clamp, 4, 3, rowOf(two, three, four, four)},
		{api.Wrap, 4, 2, rowOf(three, three, three, three)},
	} {
		what := fmt.Sprintf("border %d, side %d, k %d", c.border, c.w, c.k)
		got, e := rank.Plane(row, c.border, c.w, 1, c.k)
		checkPlane(t, what+", across", got, e, c.want)
		got, e = rank.Plane(planeOf(1, 4, row.S...), c.border, 1, c.w, c.k)
		checkPlane(t, what+", down", got, e, planeOf(1, 4, c.want.S...))
	}
}

// Both sides even, unlike: the columns from one ahead, the rows from two ahead.
func TestP12_1BothSides(t *testing.T) {
	p := counted(3, 4)
	at := func(x, y int) uint32 { return p.S[y*3+x] }
	for _, c := range []struct {
		k, x, y int
		want    uint32
	}{
		{0, 1, 2, at(0, 0)}, {1, 1, 2, at(1, 0)}, {4, 1, 2, at(0, 2)}, {7, 1, 2, at(1, 3)},
		{0, 2, 3, at(1, 1)}, {3, 2, 3, at(2, 2)}, {5, 2, 3, at(1, 3)}, {6, 2, 3, at(2, 3)},
	} {
		if got, e := rank.At(p, api.Clamp, 2, 4, c.k, c.x, c.y); e != api.OK || got != c.want {
			t.Errorf("k %d at %d, %d: %08X, %d, want %08X", c.k, c.x, c.y, got, e, c.want)
		}
	}
}

func TestP12_2Told(t *testing.T) {
	eachWindow(func(border, w, h int) {
		for _, z := range someSizes() {
			for _, p := range somePlanes(z[0], z[1]) {
				told := ranksTold(p, border, w, h)
				for _, k := range ranks(w * h) {
					got, e := rank.Plane(p, border, w, h, k)
					checkPlane(t, fmt.Sprintf("Plane of %v, %d, %d, %d, %d", z, border, w, h, k), got, e, told[k])
				}
			}
		}
	})
}

// All windows, all ranks, on a plane that is less than the greater ones.
func TestP12_2AllWindows(t *testing.T) {
	p := somePlanes(3, 2)[0]
	for _, border := range borders() {
		for w := 1; w <= api.MaxWindow; w++ {
			for h := 1; h <= api.MaxWindow; h++ {
				for k, want := range ranksTold(p, border, w, h) {
					got, e := rank.Plane(p, border, w, h, k)
					checkPlane(t, fmt.Sprintf("Plane by %d, %d, %d, %d", border, w, h, k), got, e, want)
				}
			}
		}
	}
}

func TestP12_2GreatSizes(t *testing.T) {
	for i, z := range [][2]int{{1024, 1}, {1, 1024}, {1024, 64}, {64, 1024}, {256, 256}} {
		p := filled(z[0], z[1], chance(uint64(i)))
		w, h, border := 2+i%3, 1+i%4, borders()[i%3]
		for k, want := range ranksTold(p, border, w, h) {
			got, e := rank.Plane(p, border, w, h, k)
			checkPlane(t, fmt.Sprintf("Plane of %v, %d, %d, %d, %d", z, border, w, h, k), got, e, want)
		}
	}
	p := filled(1024, 2, chance(9))
	got, e := rank.Plane(p, api.Mirror, 15, 15, 112)
	checkPlane(t, "Plane by the greatest window", got, e, ranksTold(p, api.Mirror, 15, 15)[112])
}

func TestP12_2PlaneIsAtOfEachPlace(t *testing.T) {
	eachWindow(func(border, w, h int) {
		for _, p := range somePlanes(7, 5) {
			for _, k := range ranks(w * h) {
				whole := must(rank.Plane(p, border, w, h, k))
				for i, want := range whole.S {
					if got, e := rank.At(p, border, w, h, k, i%p.W, i/p.W); e != api.OK || got != want {
						t.Fatalf("At(.., %d, %d, %d, %d, %d, %d): %08X, %d, want %08X", border, w, h, k, i%p.W, i/p.W, got, e, want)
					}
				}
			}
		}
	})
}

// eachRect: all that are within a size.
func eachRect(w, h int, do func(r api.Rect)) {
	for y0 := range h {
		for y1 := y0 + 1; y1 <= h; y1++ {
			for x0 := range w {
				for x1 := x0 + 1; x1 <= w; x1++ {
					do(api.Rect{X0: x0, Y0: y0, X1: x1, Y1: y1})
				}
			}
		}
	}
}

func TestP12_2PartIsCropOfPlane(t *testing.T) {
	for _, border := range borders() {
		for _, c := range [][3]int{{1, 1, 0}, {3, 1, 1}, {1, 2, 0}, {4, 3, 5}, {2, 15, 29}, {15, 15, 112}} {
			for _, p := range []api.Plane{counted(5, 4), somePlanes(4, 3)[1], counted(1, 6), counted(1, 1)} {
				whole := must(rank.Plane(p, border, c[0], c[1], c[2]))
				eachRect(p.W, p.H, func(r api.Rect) {
					got, e := rank.Part(p, border, c[0], c[1], c[2], r)
					checkPlane(t, fmt.Sprintf("Part by %d, %v, %v", border, c, r), got, e, cropTold(whole, r))
				})
			}
		}
	}
}

func TestP12_3Names(t *testing.T) {
	eachWindow(func(border, w, h int) {
		for _, p := range somePlanes(6, 5) {
			told := ranksTold(p, border, w, h)
			got, e := rank.Median(p, border, w, h)
			checkPlane(t, fmt.Sprintf("Median by %d, %d", w, h), got, e, told[w*h/2])
			got, e = rank.Erode(p, border, w, h)
			checkPlane(t, fmt.Sprintf("Erode by %d, %d", w, h), got, e, told[0])
			got, e = rank.Dilate(p, border, w, h)
			checkPlane(t, fmt.Sprintf("Dilate by %d, %d", w, h), got, e, told[w*h-1])
		}
	})
}

// Of an even window the greater one of the two in the middle.
func TestP12_3EvenMedian(t *testing.T) {
	p := planeOf(2, 2, one, two, three, four)
	got, e := rank.Median(p, api.Wrap, 2, 2)
	checkPlane(t, "Median", got, e, allOf(2, 2, three))
	got, e = rank.Median(p, api.Clamp, 2, 1)
	checkPlane(t, "Median", got, e, planeOf(2, 2, one, two, three, four))
}
