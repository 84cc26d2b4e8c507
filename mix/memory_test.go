package mix_test

import (
	"slices"
	"testing"

	"halide/api"
	"halide/mix"
)

const guard = 0x55AA55AA

// room: pictures whose samples all lie in one longer list, and their planes in another one.
type room struct {
	samples []uint32
	planes  []api.Plane
}

// roomOf tells a room, and the pictures in it.
func roomOf(l []api.Picture) (room, []api.Picture) {
	var r room
	var starts []int
	for _, p := range l {
		for _, q := range p.Planes {
			r.samples = append(r.samples, guard, guard)
			starts = append(starts, len(r.samples))
			r.samples = append(r.samples, q.S...)
		}
	}
	r.samples = append(r.samples, guard, guard, guard)
	var inner []api.Picture
	var firsts []int
	for _, p := range l {
		r.planes = append(r.planes, api.Plane{W: -7, H: -7})
		firsts = append(firsts, len(r.planes))
		for _, q := range p.Planes {
			start := starts[0]
			starts = starts[1:]
			r.planes = append(r.planes, api.Plane{W: q.W, H: q.H, S: r.samples[start : start+len(q.S)]})
		}
	}
	r.planes = append(r.planes, api.Plane{W: -8, H: -8}, api.Plane{W: -9, H: -9})
	for i, p := range l {
		inner = append(inner, api.Picture{Space: p.Space, Planes: r.planes[firsts[i] : firsts[i]+len(p.Planes)]})
	}
	return r, inner
}

func (r room) clone() room {
	then := room{samples: slices.Clone(r.samples)}
	for _, q := range r.planes {
		then.planes = append(then.planes, api.Plane{W: q.W, H: q.H, S: slices.Clone(q.S)})
	}
	return then
}

func (r room) isAs(then room) bool {
	return slices.Equal(r.samples, then.samples) && slices.EqualFunc(r.planes, then.planes, isSamePlane)
}

func (r room) spoil() {
	spoil(r.samples)
	for i := range r.planes {
		r.planes[i] = api.Plane{W: -5, H: -5}
	}
}

// spoil overwrites a list and the spare room behind it.
func spoil(l []uint32) {
	l = l[:cap(l)]
	for i := range l {
		l[i] = 0xDEADBEEF
	}
}

func spoilPicture(p api.Picture) {
	for _, q := range p.Planes {
		spoil(q.S)
	}
	spare := p.Planes[:cap(p.Planes)]
	for i := range spare {
		spare[i] = api.Plane{W: -1, H: -1}
	}
}

// checkMemory: what is handed in stays, its spare room too; no answer is touched by what is done with another one, or with that.
func checkMemory(t *testing.T, what string, l []api.Picture, call func(l []api.Picture) (api.Picture, api.Errno)) {
	t.Helper()
	handed, inner := roomOf(l)
	then := handed.clone()
	first, e := call(inner)
	kept := clone(first)
	second, f := call(inner)
	if e != f || !isSame(first, second) {
		t.Fatalf("%s: asked twice it tells two things", what)
	}
	if !handed.isAs(then) {
		t.Fatalf("%s: what was handed in has changed", what)
	}
	checkApart(t, what, second)
	spoilPicture(second)
	if !handed.isAs(then) || !isSame(first, kept) {
		t.Fatalf("%s: an answer shares memory", what)
	}
	if third, _ := call(inner); !isSame(third, kept) {
		t.Fatalf("%s: what is done with an answer is seen in a later one", what)
	}
	handed.spoil()
	if !isSame(first, kept) {
		t.Fatalf("%s: what was handed in is kept", what)
	}
}

// checkApart: no two planes of one answer share memory, their spare room too.
func checkApart(t *testing.T, what string, p api.Picture) {
	t.Helper()
	for n := range p.Planes {
		then := clone(p)
		spoil(p.Planes[n].S)
		for m := range p.Planes {
			if m != n && !isSamePlane(p.Planes[m], then.Planes[m]) {
				t.Fatalf("%s: the planes %d and %d share memory", what, n, m)
			}
		}
	}
}

// checkMemoryOfAll: each call of two pictures, or of the first one alone; right ones and refused ones.
func checkMemoryOfAll(t *testing.T, l []api.Picture) {
	t.Helper()
	for _, kind := range append(kinds(), 0) {
		checkMemory(t, "Mix", l, func(l []api.Picture) (api.Picture, api.Errno) { return mix.Mix(kind, l[0], l[len(l)-1]) })
	}
	for _, by := range []uint32{0, half, one} {
		checkMemory(t, "Fade", l, func(l []api.Picture) (api.Picture, api.Errno) { return mix.Fade(l[0], by) })
		checkMemory(t, "Between", l, func(l []api.Picture) (api.Picture, api.Errno) { return mix.Between(l[0], l[len(l)-1], by) })
	}
	checkMemory(t, "Multiply", l, func(l []api.Picture) (api.Picture, api.Errno) { return mix.Multiply(l[0]) })
	checkMemory(t, "Divide", l, func(l []api.Picture) (api.Picture, api.Errno) { return mix.Divide(l[0]) })
}

func TestP15_2Memory(t *testing.T) {
	for i, p := range rightPictures() {
		checkMemoryOfAll(t, []api.Picture{p, like(p, uint64(300+i))})
		checkMemoryOfAll(t, []api.Picture{p, pictureOf(api.Plain, 2, 2, 2, 9)})
	}
}

// One picture may be handed in twice, and its planes may be one.
func TestP15_2MemoryOfOneTwice(t *testing.T) {
	checkMemoryOfAll(t, []api.Picture{pictureOf(api.RGB, 4, 5, 4, 0)})
	for _, s := range []uint32{0, half, one, made + 1} {
		l := api.Plane{W: 2, H: 1, S: []uint32{s, s}}
		p := api.Picture{Space: api.RGB, Planes: planesOf(l, l, l, l)}
		for _, call := range []func() (api.Picture, api.Errno){
			func() (api.Picture, api.Errno) { return mix.Mix(api.MixAtop, p, p) },
			func() (api.Picture, api.Errno) { return mix.Fade(p, one) },
			func() (api.Picture, api.Errno) { return mix.Between(p, p, 0) },
			func() (api.Picture, api.Errno) { return mix.Multiply(p) },
			func() (api.Picture, api.Errno) { return mix.Divide(p) },
		} {
			told := must(call())
			checkApart(t, "of one plane four times", told)
			spoilPicture(told)
			if !slices.Equal(l.S, []uint32{s, s}) {
				t.Fatal("an answer shares memory with what was handed in")
			}
		}
	}
}
