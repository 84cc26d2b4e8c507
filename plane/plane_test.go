package plane_test

import (
	"math"
	"testing"

	"halide/api"
	"halide/plane"
)

func TestP5_1ErrorNumbers(t *testing.T) {
	for want, e := range map[int]api.Errno{0: api.OK, 50: api.ErrPlaneSize, 51: api.ErrPlaneCount, 52: api.ErrPlaneRect, 53: api.ErrPlaneBorder} {
		if int(e) != want {
			t.Errorf("%d, want %d", e, want)
		}
	}
	if api.MaxSide != 1024 || api.MaxArea != 65536 {
		t.Error("limits")
	}
}

func TestP5_1New(t *testing.T) {
	for _, z := range append(smallSizes(), greatSizes()...) {
		for _, s := range named() {
			p, e := plane.New(z[0], z[1], s)
			checkPlane(t, "New", p, e, told(z[0], z[1], func(_, _ int) uint32 { return s }))
		}
	}
}

func TestP5_1NewOfWrongSizes(t *testing.T) {
	for _, z := range wrongSizes() {
		p, e := plane.New(z[0], z[1], 7)
		checkNone(t, "New", p, e, api.ErrPlaneSize)
	}
}

// Of each width, the greatest height that there is, and one more.
func TestP5_1GreatestHeights(t *testing.T) {
	for w := 1; w <= 1024; w++ {
		h := min(1024, 65536/w)
		if e := plane.Check(api.Plane{W: w, H: h, S: make([]uint32, w*h)}); e != api.OK {
			t.Errorf("%d x %d: %d", w, h, e)
		}
		if e := plane.Check(api.Plane{W: w, H: h + 1, S: make([]uint32, w*(h+1))}); e != api.ErrPlaneSize {
			t.Errorf("%d x %d: %d", w, h+1, e)
		}
	}
	for w := 1; w <= 1024; w += 31 {
		h := min(1024, 65536/w)
		if p, e := plane.New(w, h, 9); e != api.OK || len(p.S) != w*h {
			t.Errorf("New(%d, %d): %d", w, h, e)
		}
		p, e := plane.New(w, h+1, 9)
		checkNone(t, "New", p, e, api.ErrPlaneSize)
	}
}

func TestP5_1Check(t *testing.T) {
	for _, p := range somePlanes() {
		if e := plane.Check(p); e != api.OK {
			t.Errorf("%d x %d: %d", p.W, p.H, e)
		}
		p.S = append(p.S, 1, 2, 3)[:len(p.S)]
		if e := plane.Check(p); e != api.OK {
			t.Errorf("%d x %d with spare room: %d", p.W, p.H, e)
		}
	}
	for _, c := range refusedPlanes() {
		if e := plane.Check(c.p); e != c.want {
			t.Errorf("%d x %d with %d samples: %d, want %d", c.p.W, c.p.H, len(c.p.S), e, c.want)
		}
	}
}

// Check's error comes ahead of every other one.
func TestP5_1CheckedFirst(t *testing.T) {
	for _, c := range refusedPlanes() {
		for _, m := range moves() {
			p, e := m.do(c.p)
			checkNone(t, m.name, p, e, c.want)
		}
		s, e := plane.Get(c.p, -1, 0)
		if s != 0 || e != c.want {
			t.Errorf("Get: %08X, %d, want %d", s, e, c.want)
		}
		if s, e = plane.Get(c.p, 0, 0); s != 0 || e != c.want {
			t.Errorf("Get: %08X, %d, want %d", s, e, c.want)
		}
		p, e := plane.Crop(c.p, api.Rect{})
		checkNone(t, "Crop", p, e, c.want)
		p, e = plane.Turn(c.p, math.MinInt)
		checkNone(t, "Turn", p, e, c.want)
		p, e = plane.Extend(c.p, 0, -1, -1, -1, -1)
		checkNone(t, "Extend", p, e, c.want)
		p, e = plane.Extend(c.p, api.Wrap, 0, math.MaxInt, 0, 0)
		checkNone(t, "Extend", p, e, c.want)
		p, e = plane.Paste(numbered(2, 3), c.p, 0, 0)
		checkNone(t, "Paste of it", p, e, c.want)
	}
}

// Of Paste's two planes p is asked first.
func TestP5_1PasteAsksThePlaneFirst(t *testing.T) {
	wrongSize, wrongCount := api.Plane{W: 0, H: 1}, api.Plane{W: 2, H: 2, S: make([]uint32, 3)}
	p, e := plane.Paste(wrongSize, wrongCount, 0, 0)
	checkNone(t, "Paste", p, e, api.ErrPlaneSize)
	p, e = plane.Paste(wrongCount, wrongSize, 0, 0)
	checkNone(t, "Paste", p, e, api.ErrPlaneCount)
}

func TestP5_2Get(t *testing.T) {
	for _, p := range somePlanes() {
		for y := range p.H {
			for x := range p.W {
				if s, e := plane.Get(p, x, y); s != at(p, x, y) || e != api.OK {
					t.Fatalf("%d x %d, Get(%d, %d): %08X, %d", p.W, p.H, x, y, s, e)
				}
			}
		}
	}
}

func TestP5_2GetOfNoPlace(t *testing.T) {
	for _, p := range somePlanes() {
		for _, n := range append(numbers(), p.W, p.H, p.W*p.H) {
			for _, c := range [][2]int{{n, 0}, {0, n}, {n, n}, {n, p.H - 1}, {p.W - 1, n}, {n, p.H}, {p.W, n}} {
				x, y := c[0], c[1]
				if x >= 0 && x < p.W && y >= 0 && y < p.H {
					continue
				}
				if s, e := plane.Get(p, x, y); s != 0 || e != api.ErrPlaneRect {
					t.Fatalf("%d x %d, Get(%d, %d): %08X, %d", p.W, p.H, x, y, s, e)
				}
			}
		}
	}
}

func checkCrop(t *testing.T, p api.Plane, r api.Rect) {
	t.Helper()
	got, e := plane.Crop(p, r)
	if 0 <= r.X0 && r.X0 < r.X1 && r.X1 <= p.W && 0 <= r.Y0 && r.Y0 < r.Y1 && r.Y1 <= p.H {
		checkPlane(t, "Crop", got, e, told(r.X1-r.X0, r.Y1-r.Y0, func(x, y int) uint32 { return at(p, r.X0+x, r.Y0+y) }))
		return
	}
	checkNone(t, "Crop", got, e, api.ErrPlaneRect)
}

// All rectangles about a plane: those within, empty ones, those turned round, at the edge and one beyond it.
func TestP5_2CropOfAllRectangles(t *testing.T) {
	for _, p := range smallPlanes() {
		for x0 := -2; x0 <= p.W+2; x0++ {
			for x1 := -2; x1 <= p.W+2; x1++ {
				for y0 := -2; y0 <= p.H+2; y0++ {
					for y1 := -2; y1 <= p.H+2; y1++ {
						checkCrop(t, p, api.Rect{X0: x0, Y0: y0, X1: x1, Y1: y1})
					}
				}
			}
		}
	}
}

func TestP5_2CropOfGreatPlanes(t *testing.T) {
	for _, z := range greatSizes() {
		p := numbered(z[0], z[1])
		for _, r := range []api.Rect{rectOf(0, 0, p.W, p.H), rectOf(0, 0, 1, 1), rectOf(p.W-1, p.H-1, p.W, p.H), rectOf(p.W/2, p.H/2, p.W, p.H), rectOf(0, 0, p.W+1, p.H), rectOf(0, 0, p.W, p.H+1), rectOf(-1, 0, p.W, p.H), rectOf(0, -1, p.W, p.H)} {
			checkCrop(t, p, r)
		}
	}
}

func TestP5_2CropOfGreatNumbers(t *testing.T) {
	p := numbered(3, 2)
	for _, n := range numbers() {
		for _, r := range []api.Rect{rectOf(n, 0, 3, 2), rectOf(0, n, 3, 2), rectOf(0, 0, n, 2), rectOf(0, 0, 3, n), rectOf(n, n, n, n), rectOf(n, 0, -n, 2), rectOf(0, n, 3, -n)} {
			checkCrop(t, p, r)
		}
	}
}
