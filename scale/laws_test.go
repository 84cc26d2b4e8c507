package scale_test

import (
	"slices"
	"testing"

	"halide/api"
	"halide/scale"
)

// lawBrings: a few more than someBrings, greater.
func lawBrings() []bring {
	return append(someBrings(), bring{40, 30, 33, 47}, bring{60, 45, 4, 3}, bring{3, 2, 100, 90}, bring{1024, 3, 69, 5}, bring{5, 4, 64, 1024})
}

func TestP10_5OneFiniteSample(t *testing.T) {
	for _, kind := range kinds() {
		for _, b := range lawBrings() {
			for _, s := range finites() {
				if b.w*b.h > 20000 && s&0xFF != 0xFF { // of the greatest planes the samples with the longest fractions
					continue
				}
				got, e := scale.Plane(allOf(b.fromW, b.fromH, s), kind, b.w, b.h)
				if kind == api.Cubic && s == minusZero {
					checkNoughts(t, got, e, b)
					continue
				}
				checkPlane(t, "one sample", got, e, allOf(b.w, b.h, s))
			}
		}
	}
}

func checkNoughts(t *testing.T, p api.Plane, e api.Errno, b bring) {
	t.Helper()
	if e != api.OK || p.W != b.w || p.H != b.h || len(p.S) != b.w*b.h {
		t.Fatalf("%d by %d, %d", p.W, p.H, e)
	}
	for _, s := range p.S {
		if s&^uint32(sign) != 0 {
			t.Fatalf("of -0 by Cubic: %08X", s)
		}
	}
}

func TestP10_5OneSampleByChance(t *testing.T) {
	next := chance(11)
	for range 60 {
		s := finiteByChance(next)
		for _, kind := range kinds() {
			for _, b := range []bring{{7, 5, 9, 3}, {14, 14, 13, 13}, {3, 3, 31, 29}, {29, 31, 2, 3}} {
				got, e := scale.Plane(allOf(b.fromW, b.fromH, s), kind, b.w, b.h)
				checkPlane(t, "one sample", got, e, allOf(b.w, b.h, s))
			}
		}
	}
}

// -0 stays with Box and Tent, to the bit; with Cubic it stays where no weight is below 0.
func TestP10_5MinusZero(t *testing.T) {
	for _, kind := range []int{api.Box, api.Tent} {
		for _, b := range lawBrings() {
			got, e := scale.Plane(allOf(b.fromW, b.fromH, minusZero), kind, b.w, b.h)
			checkPlane(t, "-0", got, e, allOf(b.w, b.h, minusZero))
		}
	}
	got, e := scale.Row([]uint32{minusZero, minusZero}, api.Cubic, 4)
	checkRow(t, "-0 by Cubic", got, e, []uint32{0, minusZero, minusZero, 0}) // the weights: 70144, -4608; 52224, 13312; ..
	got, e = scale.Row([]uint32{minusZero, minusZero}, api.Cubic, 2)
	checkRow(t, "-0 by Cubic", got, e, []uint32{minusZero, minusZero})
}

func extremes(l []uint32) (least, most float64) {
	least, most = value(l[0]), value(l[0])
	for _, s := range l {
		least, most = min(least, value(s)), max(most, value(s))
	}
	return least, most
}

// finitePlanes: near one another, far from one another, of the edges, of the greatest ones alone.
func finitePlanes(w, h int) []api.Plane {
	next := chance(uint64(w*1000 + h))
	return []api.Plane{
		filled(w, h, func() uint32 { return near(next) &^ sign }),
		filled(w, h, func() uint32 { return finiteByChance(next) }),
		filled(w, h, func() uint32 { return finites()[next()%uint32(len(finites()))] }),
		filled(w, h, func() uint32 { return greatest - next()>>31 }),
		filled(w, h, func() uint32 { return greatest | next()&sign }),
		filled(w, h, func() uint32 { return next() % 3 }),
	}
}

func TestP10_6NoNewExtremes(t *testing.T) {
	for _, kind := range []int{api.Box, api.Tent} {
		for _, b := range lawBrings() {
			for _, p := range finitePlanes(b.fromW, b.fromH) {
				least, most := extremes(p.S)
				for _, s := range must(scale.Plane(p, kind, b.w, b.h)).S {
					if !isFinite(s) || value(s) < least || value(s) > most {
						t.Fatalf("%d, %v: %08X isn't from %v to %v", kind, b, s, least, most)
					}
				}
			}
		}
	}
}

// raised: a plane none of whose samples is below p's by value: many a little above, some far, a -0 the other nought.
func raised(p api.Plane, next func() uint32) api.Plane {
	told := clone(p)
	for i, s := range told.S {
		other := finiteByChance(next)
		switch {
		case next()%3 == 0 && value(other) > value(s):
			told.S[i] = other
		case s == minusZero:
			told.S[i] = 0
		case s&sign != 0 && next()%2 == 0:
			told.S[i] = s - 1
		case s&sign == 0 && s < greatest && next()%2 == 0:
			told.S[i] = s + 1
		}
	}
	return told
}

func TestP10_6KeepsOrder(t *testing.T) {
	next := chance(21)
	for _, kind := range []int{api.Box, api.Tent} {
		for _, b := range lawBrings() {
			for _, p := range finitePlanes(b.fromW, b.fromH) {
				below, above := must(scale.Plane(p, kind, b.w, b.h)), must(scale.Plane(raised(p, next), kind, b.w, b.h))
				for i := range below.S {
					if value(below.S[i]) > value(above.S[i]) {
						t.Fatalf("%d, %v: %08X of what is below, %08X of what is above", kind, b, below.S[i], above.S[i])
					}
				}
			}
		}
	}
}

// The signs as the weights have them: so sums are as great as they may be.
func TestP10_6CubicIsFinite(t *testing.T) {
	next := chance(22)
	for _, b := range append(lawBrings(), bring{14, 14, 13, 13}, bring{28, 14, 26, 13}) {
		for _, p := range []api.Plane{
			filled(b.fromW, b.fromH, func() uint32 { return great | next()&sign }),
			allOf(b.fromW, b.fromH, great),
			allOf(b.fromW, b.fromH, great|sign),
			stripes(b.fromW, b.fromH),
		} {
			for _, s := range must(scale.Plane(p, api.Cubic, b.w, b.h)).S {
				if !isFinite(s) {
					t.Fatalf("%v: %08X", b, s)
				}
			}
		}
	}
}

func stripes(w, h int) api.Plane {
	p := allOf(w, h, great)
	for i := range p.S {
		if (i%w/2+i/w/2)%2 == 1 {
			p.S[i] |= sign
		}
	}
	return p
}

func TestP10_7OwnSize(t *testing.T) {
	for _, kind := range kinds() {
		for _, z := range [][2]int{{1, 1}, {1, 7}, {7, 1}, {9, 8}, {64, 40}, {1024, 1}, {1, 1024}, {1024, 64}, {256, 256}} {
			for _, p := range somePlanes(z[0], z[1]) {
				want := clone(p)
				for i, s := range want.S {
					if isNaN(s) {
						want.S[i] = made
					}
				}
				got, e := scale.Plane(p, kind, p.W, p.H)
				checkPlane(t, "own size", got, e, want)
			}
		}
	}
}

// outside: p, but other samples, NaNs among them, at all places outside of a rectangle.
func outside(p api.Plane, r api.Rect, next func() uint32) api.Plane {
	told := clone(p)
	for i := range told.S {
		x, y := i%p.W, i/p.W
		if x < r.X0 || x >= r.X1 || y < r.Y0 || y >= r.Y1 {
			told.S[i] = edges()[next()%uint32(len(edges()))]
		}
	}
	return told
}

func needOf(kind int, b bring, r api.Rect) api.Rect {
	x0, x1, e := scale.Need(kind, b.fromW, b.w, r.X0, r.X1)
	y0, y1, f := scale.Need(kind, b.fromH, b.h, r.Y0, r.Y1)
	if e != api.OK || f != api.OK {
		panic(e)
	}
	return rectOf(x0, y0, x1, y1)
}

func TestP10_7PartHangsOnNeedAlone(t *testing.T) {
	next := chance(31)
	for _, kind := range kinds() {
		for _, b := range lawBrings() {
			p := filled(b.fromW, b.fromH, func() uint32 { return near(next) })
			for _, r := range someRects(b.w, b.h) {
				other := outside(p, needOf(kind, b, r), next)
				want := must(scale.Part(p, kind, b.w, b.h, r))
				got, e := scale.Part(other, kind, b.w, b.h, r)
				checkPlane(t, "Part of what is another plane elsewhere", got, e, want)
			}
		}
	}
}

// And on each edge of it: a NaN there is seen.
func TestP10_7NeedIsNoGreater(t *testing.T) {
	next := chance(32)
	for _, kind := range kinds() {
		for _, b := range someBrings() {
			p := filled(b.fromW, b.fromH, func() uint32 { return near(next) })
			for y := range b.h {
				for x := range b.w {
					r := rectOf(x, y, x+1, y+1)
					need := needOf(kind, b, r)
					for _, c := range [][2]int{{need.X0, need.Y0}, {need.X1 - 1, need.Y0}, {need.X0, need.Y1 - 1}, {need.X1 - 1, need.Y1 - 1}} {
						q := clone(p)
						q.S[c[1]*q.W+c[0]] = infinity + 1
						got, e := scale.Part(q, kind, b.w, b.h, r)
						checkPlane(t, "Part with a NaN", got, e, planeOf(1, 1, made))
					}
				}
			}
		}
	}
}

func TestP10_8RowsThenColumns(t *testing.T) {
	for _, kind := range kinds() {
		for _, b := range someBrings() {
			for _, p := range somePlanes(b.fromW, b.fromH) {
				got := must(scale.Plane(p, kind, b.w, b.h))
				for x := range b.w {
					var column []uint32
					for y := range p.H {
						column = append(column, must(scale.Row(p.S[y*p.W:(y+1)*p.W], kind, b.w))[x])
					}
					for y, s := range must(scale.Row(column, kind, b.h)) {
						if s != at(got, x, y) {
							t.Fatalf("%d, %v: %08X at %d, %d, want %08X", kind, b, at(got, x, y), x, y, s)
						}
					}
				}
			}
		}
	}
}

// A row that stays one, and a column likewise.
func TestP10_8OneRow(t *testing.T) {
	next := chance(41)
	for _, kind := range kinds() {
		for _, z := range [][2]int{{1, 1}, {1, 9}, {9, 1}, {9, 4}, {9, 40}, {1024, 69}, {1024, 1024}, {3, 1024}} {
			for _, sample := range []func() uint32{func() uint32 { return near(next) }, func() uint32 { return edges()[next()%uint32(len(edges()))] }} {
				l := rowOf(z[0], sample)
				want := must(scale.Row(l, kind, z[1]))
				got, e := scale.Plane(planeOf(z[0], 1, l...), kind, z[1], 1)
				checkPlane(t, "one row", got, e, planeOf(z[1], 1, want...))
				got, e = scale.Plane(planeOf(1, z[0], l...), kind, 1, z[1])
				checkPlane(t, "one column", got, e, planeOf(1, z[1], want...))
			}
		}
	}
}

// Of rows that are all the same each one is Row, as a column of one sample stays; but that of Cubic a -0 may be +0.
func TestP10_8SameRows(t *testing.T) {
	next := chance(42)
	for _, kind := range kinds() {
		l := rowOf(11, func() uint32 { return near(next) })
		want := must(scale.Row(l, kind, 17))
		got := must(scale.Plane(planeOf(11, 4, slices.Concat(l, l, l, l)...), kind, 17, 9))
		for y := range 9 {
			checkRow(t, "a row of the same ones", got.S[y*17:(y+1)*17], api.OK, want)
		}
	}
}
