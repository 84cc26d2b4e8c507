package blur_test

import (
	"slices"
	"testing"

	"halide/api"
	"halide/blur"
)

// eachBlur: all kinds, radii and borders.
func eachBlur(do func(kind, radius, border int)) {
	for _, kind := range kinds() {
		for radius := range api.MaxRadius + 1 {
			for _, border := range borders() {
				do(kind, radius, border)
			}
		}
	}
}

func TestP11_6OneSample(t *testing.T) {
	eachBlur(func(kind, radius, border int) {
		for _, z := range [][2]int{{1, 1}, {1, 5}, {4, 1}, {3, 2}, {9, 17}} {
			for _, s := range slices.Concat(finites(), infinites()) {
				got, e := blur.Blur(allOf(z[0], z[1], s), kind, radius, border)
				checkPlane(t, "one sample", got, e, allOf(z[0], z[1], s))
			}
		}
	})
}

func TestP11_6OneSampleByChance(t *testing.T) {
	next := chance(6)
	eachBlur(func(kind, radius, border int) {
		for range 200 {
			s := finiteByChance(next)
			got, e := blur.Blur(allOf(3, 2, s), kind, radius, border)
			checkPlane(t, "one sample", got, e, allOf(3, 2, s))
		}
	})
}

// finitePlanes: near one another, far from one another, of the edges, of the greatest and of the least ones alone.
func finitePlanes(w, h int) []api.Plane {
	next := chance(uint64(w*1000 + h))
	return append(somePlanes(w, h)[:4],
		filled(w, h, func() uint32 { return near(next) &^ sign }),
		filled(w, h, func() uint32 { return greatest - next()>>31 }),
		filled(w, h, func() uint32 { return greatest | next()&sign }),
		filled(w, h, func() uint32 { return next() % 3 }),
		filled(w, h, func() uint32 { return next() & sign }),
	)
}

// raised: a plane none of whose samples is below p's by value: many a little above, some far, a -0 the other nought.
func raised(p api.Plane, next func() uint32) api.Plane {
	told := clone(p)
	for i, s := range told.S {
		other := finiteByChance(next)
		switch {
		case next()%3 == 0 && value(other) > value(s):
			told.S[i] = other
		case s == minusZero:
			told.S[i] = 0
		case s&sign != 0 && next()%2 == 0:
			told.S[i] = s - 1
		case s&sign == 0 && s < greatest && next()%2 == 0:
			told.S[i] = s + 1
		}
	}
	return told
}

func TestP11_7KeepsOrder(t *testing.T) {
	next := chance(7)
	eachBlur(func(kind, radius, border int) {
		for _, z := range someSizes() {
			for _, p := range finitePlanes(z[0], z[1]) {
				below, above := must(blur.Blur(p, kind, radius, border)), must(blur.Blur(raised(p, next), kind, radius, border))
				for i := range below.S {
					if isNaN(below.S[i]) || value(below.S[i]) > value(above.S[i]) {
						t.Fatalf("%d, %d, %d, %v: %08X of what is below, %08X of what is above", kind, radius, border, z, below.S[i], above.S[i])
					}
				}
			}
		}
	})
}

// window: which places of p the one at x, y is made of.
func window(p api.Plane, radius, border, x, y int) []bool {
	in := make([]bool, len(p.S))
	for e := -radius; e <= radius; e++ {
		for d := -radius; d <= radius; d++ {
			in[borderTold(border, p.H, y+e)*p.W+borderTold(border, p.W, x+d)] = true
		}
	}
	return in
}

func extremes(p api.Plane, in []bool) (least, most float64) {
	first := slices.Index(in, true)
	least, most = value(p.S[first]), value(p.S[first])
	for i, s := range p.S {
		if in[i] {
			least, most = min(least, value(s)), max(most, value(s))
		}
	}
	return least, most
}

func TestP11_7NoNewExtremes(t *testing.T) {
	eachBlur(func(kind, radius, border int) {
		for _, z := range [][2]int{{1, 1}, {1, 9}, {8, 3}, {9, 10}} {
			for _, p := range finitePlanes(z[0], z[1]) {
				for i, s := range must(blur.Blur(p, kind, radius, border)).S {
					least, most := extremes(p, window(p, radius, border, i%p.W, i/p.W))
					if isNaN(s) || value(s) < least || value(s) > most {
						t.Fatalf("%d, %d, %d, %v: %08X isn't from %v to %v", kind, radius, border, z, s, least, most)
					}
				}
			}
		}
	})
}

// elsewhere: p, but edges at all places that aren't in.
func elsewhere(p api.Plane, in []bool, next func() uint32) api.Plane {
	told, all := clone(p), edges()
	for i := range told.S {
		if !in[i] {
			told.S[i] = oneOf(all, next)
		}
	}
	return told
}

func TestP11_8BlurHangsOnItsWindowAlone(t *testing.T) {
	next := chance(8)
	eachBlur(func(kind, radius, border int) {
		for _, z := range [][2]int{{5, 4}, {17, 3}, {2, 19}} {
			p := filled(z[0], z[1], func() uint32 { return near(next) })
			want := must(blur.Blur(p, kind, radius, border))
			for i := range p.S {
				x, y := i%p.W, i/p.W
				other := elsewhere(p, window(p, radius, border, x, y), next)
				if got := must(blur.Blur(other, kind, radius, border)); got.S[i] != want.S[i] {
					t.Fatalf("%d, %d, %d, %v: at %d, %d %08X of what is another plane elsewhere, else %08X", kind, radius, border, z, x, y, got.S[i], want.S[i])
				}
			}
		}
	})
}

// And on each place of it: just there a NaN is seen.
func TestP11_8BlurHangsOnAllOfItsWindow(t *testing.T) {
	next := chance(9)
	eachBlur(func(kind, radius, border int) {
		p := filled(9, 8, func() uint32 { return near(next) })
		seen := make([]api.Plane, len(p.S))
		for i := range p.S {
			q := clone(p)
			q.S[i] = infinity + 1
			seen[i] = must(blur.Blur(q, kind, radius, border))
		}
		for j := range p.S {
			for i, in := range window(p, radius, border, j%p.W, j/p.W) {
				if isNaN(seen[i].S[j]) != in {
					t.Fatalf("%d, %d, %d: of the place %d, a NaN at %d: %08X", kind, radius, border, j, i, seen[i].S[j])
				}
			}
		}
	})
}

// twoPlaces: those that a slope is told of.
func twoPlaces(p api.Plane, border, x, y int, down bool) []bool {
	in := make([]bool, len(p.S))
	for _, d := range []int{-1, 1} {
		if down {
			in[borderTold(border, p.H, y+d)*p.W+x] = true
		} else {
			in[y*p.W+borderTold(border, p.W, x+d)] = true
		}
	}
	return in
}

func TestP11_8GradientHangsOnTwo(t *testing.T) {
	next := chance(10)
	for _, border := range borders() {
		for _, z := range [][2]int{{1, 1}, {5, 4}, {9, 2}, {1, 7}} {
			p := filled(z[0], z[1], func() uint32 { return near(next) })
			across, down, _ := blur.Gradient(p, border)
			for i := range p.S {
				got, _, e := blur.Gradient(elsewhere(p, twoPlaces(p, border, i%p.W, i/p.W, false), next), border)
				if e != api.OK || got.S[i] != across.S[i] {
					t.Fatalf("%d, %v: across at %d %08X, else %08X", border, z, i, got.S[i], across.S[i])
				}
				_, got, e = blur.Gradient(elsewhere(p, twoPlaces(p, border, i%p.W, i/p.W, true), next), border)
				if e != api.OK || got.S[i] != down.S[i] {
					t.Fatalf("%d, %v: down at %d %08X, else %08X", border, z, i, got.S[i], down.S[i])
				}
			}
		}
	}
}

func TestP11_9RadiusNought(t *testing.T) {
	for _, kind := range kinds() {
		for _, border := range borders() {
			for _, z := range append(someSizes(), [2]int{1024, 64}, [2]int{64, 1024}) {
				for _, p := range somePlanes(z[0], z[1]) {
					want := clone(p)
					for i, s := range want.S {
						if isNaN(s) {
							want.S[i] = made
						}
					}
					got, e := blur.Blur(p, kind, 0, border)
					checkPlane(t, "radius 0", got, e, want)
				}
			}
		}
	}
}

func TestP11_9GradientOfOneSample(t *testing.T) {
	for _, border := range borders() {
		for _, z := range someSizes() {
			for _, s := range finites() {
				checkGradient(t, allOf(z[0], z[1], s), border, allOf(z[0], z[1], 0), allOf(z[0], z[1], 0))
			}
		}
	}
}

// moved: round by so many places.
func moved(p api.Plane, dx, dy int) api.Plane {
	told := clone(p)
	for i, s := range p.S {
		told.S[(i/p.W+dy)%p.H*p.W+(i%p.W+dx)%p.W] = s
	}
	return told
}

func TestP11_9GradientMovedRound(t *testing.T) {
	for _, z := range someSizes() {
		for _, p := range somePlanes(z[0], z[1]) {
			across, down, _ := blur.Gradient(p, api.Wrap)
			for dy := range p.H {
				for dx := range p.W {
					checkGradient(t, moved(p, dx, dy), api.Wrap, moved(across, dx, dy), moved(down, dx, dy))
				}
			}
		}
	}
}
