package region_test

import (
	"fmt"
	"math/rand"
	"slices"
	"testing"

	"halide/api"
	"halide/region"
)

// cut: the same places by other rectangles: each one in up to four, some of them overlapping.
func cut(r *rand.Rand, l []api.Rect) []api.Rect {
	var m []api.Rect
	for _, q := range l {
		if q.X1-q.X0 < 2 || q.Y1-q.Y0 < 2 {
			m = append(m, q)
			continue
		}
		x, y := q.X0+1+r.Intn(q.X1-q.X0-1), q.Y0+1+r.Intn(q.Y1-q.Y0-1)
		m = append(m, rectOf(q.X0, q.Y0, x, y), rectOf(x-r.Intn(2), q.Y0, q.X1, y), rectOf(q.X0, y-r.Intn(2), q.X1, q.Y1))
	}
	return shuffled(r, m)
}

func TestP6_5OneForm(t *testing.T) {
	r := rand.New(rand.NewSource(65))
	for _, l := range some() {
		form := must(region.Of(l))
		for range 5 {
			other := cut(r, l)
			got, e := region.Of(other)
			checkList(t, fmt.Sprintf("Of(%v), as Of(%v)", other, l), got, e, form)
		}
		again, e := region.Of(form)
		checkList(t, "Of of a normal form", again, e, form)
	}
}

func TestP6_5SameJustIfTheirFormsAre(t *testing.T) {
	r := rand.New(rand.NewSource(66))
	for range 2000 {
		a, b := byChance(r, 2, 2), byChance(r, 2, 2)
		same, e := region.Same(a, b)
		if want := slices.Equal(must(region.Of(a)), must(region.Of(b))); same != want || e != api.OK {
			t.Fatalf("Same(%v, %v): %v, %d, want %v", a, b, same, e, want)
		}
	}
}

// three lists by chance, that often have places in common.
func three(r *rand.Rand, i int) (a, b, c []api.Rect) {
	size := 2 + i%12
	return byChance(r, 1+i/30, size), byChance(r, 1+i/40, size), byChance(r, 1+i/50, size)
}

func TestP6_6Order(t *testing.T) {
	r := rand.New(rand.NewSource(67))
	for i := range 400 {
		a, b, c := three(r, i)
		for _, put := range []putCase{puts()[0], puts()[1]} {
			ab := must(put.call(a, b))
			got, e := put.call(b, a)
			checkList(t, put.name+" the other way round", got, e, ab)
			got, e = put.call(a, must(put.call(b, c)))
			checkList(t, put.name+" of three", got, e, must(put.call(ab, c)))
		}
	}
}

func TestP6_6LessAndMeet(t *testing.T) {
	r := rand.New(rand.NewSource(68))
	for i := range 400 {
		a, b, _ := three(r, i)
		less, meet := must(region.Less(a, b)), must(region.Meet(a, b))
		got, e := region.Meet(less, meet)
		checkList(t, "Less and Meet: in common", got, e, nil)
		got, e = region.Union(less, meet)
		checkList(t, "Less and Meet: together", got, e, must(region.Of(a)))
		if count(t, must(region.Union(a, b)))+count(t, meet) != count(t, a)+count(t, b) {
			t.Fatalf("Counts of %v and %v", a, b)
		}
	}
}

func TestP6_7Grow(t *testing.T) {
	r := rand.New(rand.NewSource(69))
	for i := range 400 {
		a, b, _ := three(r, i)
		got, e := region.Grow(a, 0, 0, 0, 0)
		checkList(t, "Grow by nothing", got, e, must(region.Of(a)))
		var d, f [4]int
		for k := range 4 {
			d[k], f[k] = r.Intn(4), r.Intn(4)
		}
		once := must(region.Grow(a, d[0], d[1], d[2], d[3]))
		got, e = region.Grow(once, f[0], f[1], f[2], f[3])
		checkList(t, "Grow twice", got, e, must(region.Grow(a, d[0]+f[0], d[1]+f[1], d[2]+f[2], d[3]+f[3])))
		got, e = region.Grow(must(region.Union(a, b)), d[0], d[1], d[2], d[3])
		checkList(t, "Grow of Union", got, e, must(region.Union(once, must(region.Grow(b, d[0], d[1], d[2], d[3])))))
	}
}

func TestP6_7ShiftAndCount(t *testing.T) {
	r := rand.New(rand.NewSource(70))
	for i := range 400 {
		a, _, _ := three(r, i)
		form := must(region.Of(a))
		dx, dy := r.Intn(16000)-8000, r.Intn(16000)-8000
		got, e := region.Shift(must(region.Shift(a, dx, dy)), -dx, -dy)
		checkList(t, "Shift there and back", got, e, form)
		got, e = region.Shift(a, 0, 0)
		checkList(t, "Shift by nothing", got, e, form)
		if n := count(t, a); n < len(form) {
			t.Fatalf("Count of %v: %d, below %d rectangles", a, n, len(form))
		}
	}
}
