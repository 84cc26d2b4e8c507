package plane_test

import (
	"math/rand"
	"slices"
	"testing"

	"halide/api"
	"halide/plane"
)

func checkEqual(t *testing.T, p, q api.Plane, want bool) {
	t.Helper()
	if plane.Equal(p, q) != want || plane.Equal(q, p) != want {
		t.Fatalf("%d x %d with %d samples, %d x %d with %d: Equal isn't %v", p.W, p.H, len(p.S), q.W, q.H, len(q.S), want)
	}
}

func checkUnlike(t *testing.T, p, q api.Plane, want api.Rect, ok bool) {
	t.Helper()
	for range 2 {
		if r, got := plane.Unlike(p, q); r != want || got != ok {
			t.Fatalf("%d x %d: Unlike tells %v, %v, want %v, %v", p.W, p.H, r, got, want, ok)
		}
		p, q = q, p
	}
}

func copyOf(p api.Plane) api.Plane { return api.Plane{W: p.W, H: p.H, S: slices.Clone(p.S)} }

func TestP5_7EqualOfCopies(t *testing.T) {
	for _, p := range somePlanes() {
		checkEqual(t, p, p, true)
		checkEqual(t, p, copyOf(p), true)
		checkUnlike(t, p, copyOf(p), api.Rect{}, false)
	}
	for _, c := range refusedPlanes() {
		checkEqual(t, c.p, copyOf(c.p), true)
		checkUnlike(t, c.p, copyOf(c.p), api.Rect{}, false)
	}
	checkEqual(t, api.Plane{W: 3, H: 1}, api.Plane{W: 3, H: 1, S: []uint32{}}, true)
}

// To the bit: NaNs of the same bits are the same, noughts of unlike signs aren't.
func TestP5_7EqualByBits(t *testing.T) {
	for _, a := range named() {
		for _, b := range named() {
			p, q := api.Plane{W: 1, H: 1, S: []uint32{a}}, api.Plane{W: 1, H: 1, S: []uint32{b}}
			checkEqual(t, p, q, a == b)
			if a == b {
				checkUnlike(t, p, q, api.Rect{}, false)
			} else {
				checkUnlike(t, p, q, api.Rect{X1: 1, Y1: 1}, true)
			}
		}
	}
	for i := range 32 {
		p, q := numbered(3, 5), numbered(3, 5)
		q.S[7] ^= 1 << i
		checkEqual(t, p, q, false)
		checkUnlike(t, p, q, api.Rect{X0: 1, Y0: 2, X1: 2, Y1: 3}, true)
	}
}

func TestP5_7OtherSizes(t *testing.T) {
	six := []uint32{1, 2, 3, 4, 5, 6}
	p := api.Plane{W: 2, H: 3, S: six}
	for _, q := range []api.Plane{{W: 3, H: 2, S: six}, {W: 1, H: 6, S: six}, {W: 6, H: 1, S: six}, {W: 2, H: 4, S: six}, {W: 3, H: 3, S: six}, {W: -2, H: -3, S: six}, {W: 2, H: 2, S: six[:4]}, {W: 1, H: 3, S: six[:3]}} {
		checkEqual(t, p, q, false)
		checkUnlike(t, p, q, api.Rect{}, false)
	}
}

// Planes that Check refuses: Equal by the same words, Unlike tells nothing.
func TestP5_7PlanesThatMayNotBe(t *testing.T) {
	for _, c := range refusedPlanes() {
		other := copyOf(c.p)
		if len(other.S) > 0 {
			other.S[len(other.S)-1] ^= sign
			checkEqual(t, c.p, other, false)
			checkUnlike(t, c.p, other, api.Rect{}, false)
		}
		more := copyOf(c.p)
		more.S = append(more.S, 0)
		checkEqual(t, c.p, more, false)
		checkUnlike(t, c.p, more, api.Rect{}, false)
		wider := copyOf(c.p)
		wider.W++
		checkEqual(t, c.p, wider, false)
		checkUnlike(t, c.p, wider, api.Rect{}, false)
		higher := copyOf(c.p)
		higher.H++
		checkEqual(t, c.p, higher, false)
		checkUnlike(t, c.p, higher, api.Rect{}, false)
	}
	// One may be, and the other, of the same size, may not.
	p := numbered(2, 3)
	for _, n := range []int{0, 5, 7} {
		q := api.Plane{W: 2, H: 3, S: make([]uint32, n)}
		checkEqual(t, p, q, false)
		checkUnlike(t, p, q, api.Rect{}, false)
	}
}

// What lies behind a list is none of a plane.
func TestP5_7SpareRoom(t *testing.T) {
	room, other := numbered(2, 4).S, numbered(2, 4).S
	room[6], other[7] = 99, 98
	p, q := api.Plane{W: 2, H: 3, S: room[:6]}, api.Plane{W: 2, H: 3, S: other[:6]}
	checkEqual(t, p, q, true)
	checkUnlike(t, p, q, api.Rect{}, false)
}

// Each pair of places, by themselves.
func TestP5_7UnlikeAtTwoPlaces(t *testing.T) {
	for _, p := range smallPlanes() {
		for i := range p.S {
			for j := range p.S {
				q := copyOf(p)
				q.S[i] = 0xFFDDDDDD
				q.S[j] = 0xFFDDDDDD
				xi, yi, xj, yj := i%p.W, i/p.W, j%p.W, j/p.W
				checkUnlike(t, p, q, api.Rect{X0: min(xi, xj), Y0: min(yi, yj), X1: max(xi, xj) + 1, Y1: max(yi, yj) + 1}, true)
				checkEqual(t, p, q, false)
			}
		}
	}
}

func TestP5_7UnlikeAtManyByChance(t *testing.T) {
	r := rand.New(rand.NewSource(57))
	for _, p := range somePlanes() {
		for range 10 {
			q := copyOf(p)
			x0, y0, x1, y1 := p.W, p.H, 0, 0
			for range 1 + r.Intn(4) {
				x, y := r.Intn(p.W), r.Intn(p.H)
				q.S[y*p.W+x] ^= 0xFFFFFFFF
				if q.S[y*p.W+x] == at(p, x, y) { // met twice
					q.S[y*p.W+x] ^= 1
				}
				x0, y0, x1, y1 = min(x0, x), min(y0, y), max(x1, x+1), max(y1, y+1)
			}
			checkUnlike(t, p, q, api.Rect{X0: x0, Y0: y0, X1: x1, Y1: y1}, true)
		}
	}
}
