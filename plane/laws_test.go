package plane_test

import (
	"math"
	"math/rand"
	"slices"
	"testing"

	"halide/api"
	"halide/plane"
)

const guard = 0x55AA55AA

// inRoom: the same plane, in the middle of a longer list.
func inRoom(p api.Plane) (api.Plane, []uint32) {
	room := make([]uint32, len(p.S)+11)
	for i := range room {
		room[i] = guard
	}
	copy(room[3:], p.S)
	return api.Plane{W: p.W, H: p.H, S: room[3 : 3+len(p.S)]}, room
}

// spoil overwrites a list and the spare room behind it.
func spoil(l []uint32) {
	for i := range l[:cap(l)] {
		l[:cap(l)][i] = 0xDEADBEEF
	}
}

func TestP5_8HandedInStaysAndAnsweredIsNew(t *testing.T) {
	all := append(moves(),
		move{"New", func(api.Plane) (api.Plane, api.Errno) { return plane.New(3, 3, 5) }},
		move{"Extend", func(p api.Plane) (api.Plane, api.Errno) { return plane.Extend(p, api.Mirror, 1, 2, 3, 4) }},
		move{"Crop refused", func(p api.Plane) (api.Plane, api.Errno) { return plane.Crop(p, api.Rect{X1: -1}) }},
		move{"Extend refused", func(p api.Plane) (api.Plane, api.Errno) { return plane.Extend(p, api.Wrap, 1024, 0, 0, 0) }},
	)
	for _, z := range append(smallSizes(), [2]int{64, 900}) {
		for _, m := range all {
			p, room := inRoom(numbered(z[0], z[1]))
			then := slices.Clone(room)
			first, e := m.do(p)
			kept := slices.Clone(first.S)
			second, f := m.do(p)
			if e != f || !isSame(first, second) {
				t.Fatalf("%s: asked twice it tells two things", m.name)
			}
			spoil(second.S)
			if !slices.Equal(room, then) || !slices.Equal(first.S, kept) {
				t.Fatalf("%s: an answer shares memory", m.name)
			}
			spoil(room)
			if !slices.Equal(first.S, kept) {
				t.Fatalf("%s: what was handed in is kept", m.name)
			}
		}
	}
}

// The same of Paste's second plane, and of the calls that answer no plane.
func TestP5_8PastedStays(t *testing.T) {
	p, q := numbered(4, 9), another(5, 4)
	inP, roomP := inRoom(p)
	inQ, roomQ := inRoom(q)
	thenP, thenQ := slices.Clone(roomP), slices.Clone(roomQ)
	told := must(plane.Paste(inP, inQ, -1, 2))
	plane.Equal(inP, inQ)
	plane.Unlike(inP, told)
	plane.Get(inP, 1, 1)
	plane.Check(inP)
	kept := slices.Clone(told.S)
	if !slices.Equal(roomP, thenP) || !slices.Equal(roomQ, thenQ) {
		t.Fatal("what was handed in has changed")
	}
	spoil(roomP)
	spoil(roomQ)
	if !slices.Equal(told.S, kept) {
		t.Fatal("what was handed in is kept")
	}
}

// Every sample that is answered is one that was handed in.
func TestP5_8BitsAreMoved(t *testing.T) {
	all := append(moves(),
		move{"Extend", func(p api.Plane) (api.Plane, api.Errno) { return plane.Extend(p, api.Wrap, 5, 4, 3, 2) }},
		move{"Extend", func(p api.Plane) (api.Plane, api.Errno) { return plane.Extend(p, api.Mirror, 5, 4, 3, 2) }})
	for _, p := range smallPlanes() {
		handed := map[uint32]int{}
		for i, s := range append(another(3, 3).S, p.S...) {
			handed[s] = i
		}
		for _, m := range all {
			for _, s := range must(m.do(p)).S {
				if _, ok := handed[s]; !ok {
					t.Fatalf("%s: %08X comes from nowhere", m.name, s)
				}
			}
		}
	}
	for _, s := range named() {
		p := must(plane.New(4, 3, s))
		for _, kind := range kinds() {
			wide := must(plane.Extend(must(plane.Turn(p, 1)), kind, 1, 2, 3, 4))
			checkPlane(t, "Extend of one sample", must(plane.Flip(wide, true)), api.OK, must(plane.New(7, 10, s)))
		}
	}
}

func TestP5_9ThereAndBack(t *testing.T) {
	for _, p := range somePlanes() {
		for _, across := range []bool{false, true} {
			checkPlane(t, "Flip twice", must(plane.Flip(must(plane.Flip(p, across)), across)), api.OK, p)
		}
		checkPlane(t, "Transpose twice", must(plane.Transpose(must(plane.Transpose(p)))), api.OK, p)
		turned := p
		for range 4 {
			turned = must(plane.Turn(turned, 1))
		}
		checkPlane(t, "Turn four times", turned, api.OK, p)
		checkPlane(t, "Turn by one", must(plane.Turn(p, 1)), api.OK, must(plane.Flip(must(plane.Transpose(p)), true)))
	}
}

func TestP5_9TurnsAdd(t *testing.T) {
	for _, p := range smallPlanes() {
		for a := -9; a <= 9; a++ {
			for b := -9; b <= 9; b++ {
				checkPlane(t, "Turn of Turn", must(plane.Turn(must(plane.Turn(p, a)), b)), api.OK, must(plane.Turn(p, a+b)))
			}
		}
		for _, a := range []int{math.MinInt, math.MinInt + 3, math.MaxInt, math.MaxInt - 2} {
			checkPlane(t, "Turn of a great Turn", must(plane.Turn(must(plane.Turn(p, a)), -(a+1))), api.OK, must(plane.Turn(p, -1)))
		}
	}
}

func chanceRect(r *rand.Rand, w, h int) api.Rect {
	x, y := r.Intn(w), r.Intn(h)
	return api.Rect{X0: x, Y0: y, X1: x + 1 + r.Intn(w-x), Y1: y + 1 + r.Intn(h-y)}
}

func TestP5_9Crops(t *testing.T) {
	r := rand.New(rand.NewSource(59))
	for _, p := range somePlanes() {
		for range 20 {
			a := chanceRect(r, p.W, p.H)
			crop := must(plane.Crop(p, a))
			b := chanceRect(r, crop.W, crop.H)
			one := api.Rect{X0: a.X0 + b.X0, Y0: a.Y0 + b.Y0, X1: a.X0 + b.X1, Y1: a.Y0 + b.Y1}
			checkPlane(t, "Crop of Crop", must(plane.Crop(crop, b)), api.OK, must(plane.Crop(p, one)))
			checkPlane(t, "Paste of Crop", must(plane.Paste(p, crop, a.X0, a.Y0)), api.OK, p)
		}
	}
}

func TestP5_9CropOfExtend(t *testing.T) {
	r := rand.New(rand.NewSource(60))
	for _, p := range smallPlanes() {
		for _, kind := range kinds() {
			for range 20 {
				left, top := r.Intn(60), r.Intn(60)
				wide := must(plane.Extend(p, kind, left, top, r.Intn(60), r.Intn(60)))
				checkPlane(t, "Crop of Extend", must(plane.Crop(wide, api.Rect{X0: left, Y0: top, X1: left + p.W, Y1: top + p.H})), api.OK, p)
			}
		}
	}
}

func border(t *testing.T, kind, n, i int) int {
	t.Helper()
	b, e := plane.Border(kind, n, i)
	if e != api.OK || b < 0 || b >= n {
		t.Fatalf("Border(%d, %d, %d): %d, %d", kind, n, i, b, e)
	}
	return b
}

func TestP5_10Border(t *testing.T) {
	for n := 1; n <= 1024; n += 1 + n/16 {
		for i := range n {
			for _, kind := range kinds() {
				if b := border(t, kind, n, i); b != i {
					t.Fatalf("Border(%d, %d, %d): %d", kind, n, i, b)
				}
			}
		}
		for i := -3 * n; i <= 3*n; i++ {
			if border(t, api.Wrap, n, i) != border(t, api.Wrap, n, i+n) {
				t.Fatalf("Wrap of %d at %d: no period of n", n, i)
			}
			if border(t, api.Mirror, n, i) != border(t, api.Mirror, n, i+2*(n-1)) {
				t.Fatalf("Mirror of %d at %d: no period of 2 (n - 1)", n, i)
			}
			if border(t, api.Mirror, n, i) != border(t, api.Mirror, n, -i) {
				t.Fatalf("Mirror of %d at %d: not the same to both sides of 0", n, i)
			}
		}
		for _, i := range []int{math.MaxInt, math.MaxInt - 1, 1 << 62} {
			if border(t, api.Mirror, n, i) != border(t, api.Mirror, n, -i) || border(t, api.Wrap, n, i) != border(t, api.Wrap, n, i-n) {
				t.Fatalf("far from 0: n %d, i %d", n, i)
			}
		}
	}
}
