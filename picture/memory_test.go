package picture_test

import (
	"slices"
	"testing"

	"halide/api"
	"halide/picture"
)

const guard = 0x55AA55AA

// inRoom: the same picture, all of its samples in the middle of one longer list, its planes in the middle of a longer one, too.
func inRoom(p api.Picture) (api.Picture, []uint32, []api.Plane) {
	var room []uint32
	for _, q := range p.Planes {
		room = append(append(room, guard, guard), q.S...)
	}
	room = append(room, guard, guard, guard)
	planes := []api.Plane{{W: -7, H: -7}}
	start := 2
	for _, q := range p.Planes {
		planes = append(planes, api.Plane{W: q.W, H: q.H, S: room[start : start+len(q.S)]})
		start += len(q.S) + 2
	}
	planes = append(planes, api.Plane{W: -8, H: -8}, api.Plane{W: -9, H: -9})
	return api.Picture{Space: p.Space, Planes: planes[1 : 1+len(p.Planes)]}, room, planes
}

// spoil overwrites a list and the spare room behind it.
func spoil(l []uint32) {
	for i := range l[:cap(l)] {
		l[:cap(l)][i] = 0xDEADBEEF
	}
}

func spoilPicture(p api.Picture) {
	for _, q := range p.Planes {
		spoil(q.S)
	}
	spare := p.Planes[:cap(p.Planes)]
	for i := range spare {
		spare[i] = api.Plane{W: -1, H: -1}
	}
}

// isUntouched: that nothing of a room has changed since.
func isUntouched(room, then []uint32, planes, thenPlanes []api.Plane) bool {
	return slices.Equal(room, then) && slices.EqualFunc(planes, thenPlanes, isSamePlane)
}

func deepPlanes(l []api.Plane) []api.Plane {
	var told []api.Plane
	for _, q := range l {
		told = append(told, api.Plane{W: q.W, H: q.H, S: slices.Clone(q.S)})
	}
	return told
}

// allCalls: all that answer a picture, of one that may be.
func allCalls(p api.Picture) []call {
	z := p.Planes[0]
	all := append(calls(), placeByPlace()...)
	return append(all,
		call{"New", func(api.Picture) (api.Picture, api.Errno) { return picture.New(api.RGB, 4, 3, 2, one) }},
		call{"With its own plane", func(p api.Picture) (api.Picture, api.Errno) { return picture.With(p, 0, p.Planes[len(p.Planes)-1]) }},
		call{"Crop of all", func(p api.Picture) (api.Picture, api.Errno) { return picture.Crop(p, rectOf(0, 0, z.W, z.H)) }},
		call{"Paste", func(p api.Picture) (api.Picture, api.Errno) { return picture.Paste(p, p, 1, 0) }},
		call{"Paste beside", func(p api.Picture) (api.Picture, api.Errno) { return picture.Paste(p, p, -99, 0) }},
		call{"Map of no plane", func(p api.Picture) (api.Picture, api.Errno) { return picture.Map(p, 7, same) }},
		call{"Two", func(p api.Picture) (api.Picture, api.Errno) { return picture.Two(api.Add, p, p) }},
		call{"Two, the least", func(p api.Picture) (api.Picture, api.Errno) { return picture.Two(api.Least, p, p) }},
		call{"Two of no kind", func(p api.Picture) (api.Picture, api.Errno) { return picture.Two(0, p, p) }},
	)
}

func TestP8_2HandedInStaysAndAnsweredIsNew(t *testing.T) {
	for _, handed := range rightPictures() {
		for _, c := range allCalls(handed) {
			p, room, planes := inRoom(handed)
			then, thenPlanes := slices.Clone(room), deepPlanes(planes)
			first, e := c.do(p)
			kept := clone(first)
			second, f := c.do(p)
			if e != f || !isSame(first, second) {
				t.Fatalf("%s: asked twice it tells two things", c.name)
			}
			spoilPicture(second)
			if !isUntouched(room, then, planes, thenPlanes) || !isSame(first, kept) {
				t.Fatalf("%s: an answer shares memory", c.name)
			}
			spoil(room)
			for i := range planes {
				planes[i] = api.Plane{W: -5, H: -5}
			}
			if !isSame(first, kept) {
				t.Fatalf("%s: what was handed in is kept", c.name)
			}
		}
	}
}

// No two planes of one answer share memory, also where those that were handed in did.
func TestP8_2PlanesOfAnAnswerAreApart(t *testing.T) {
	l := numbered(3, 2, 0)
	for _, planes := range []int{3, 4} {
		p := api.Picture{Space: api.RGB}
		for range planes {
			p.Planes = append(p.Planes, l)
		}
		for _, c := range allCalls(p) {
			told, e := c.do(p)
			if e != api.OK {
				continue
			}
			for n := range told.Planes {
				then := deepPlanes(told.Planes)
				spoil(told.Planes[n].S)
				for m := range told.Planes {
					if m != n && !isSamePlane(told.Planes[m], then[m]) {
						t.Fatalf("%s: the planes %d and %d share memory", c.name, n, m)
					}
				}
			}
		}
	}
}

func TestP8_2PlaneIsNew(t *testing.T) {
	p, room, planes := inRoom(pictureOf(api.YCC, 4, 5, 4, 0))
	then, thenPlanes := slices.Clone(room), deepPlanes(planes)
	first, _ := picture.Plane(p, 2)
	second, _ := picture.Plane(p, 2)
	spoil(second.S)
	if !isUntouched(room, then, planes, thenPlanes) || !isSamePlane(first, thenPlanes[3]) {
		t.Fatal("Plane: an answer shares memory")
	}
	spoil(room)
	if !isSamePlane(first, thenPlanes[3]) {
		t.Fatal("Plane: what was handed in is kept")
	}
}

// The second one that is handed in: a plane of With, a picture of Paste and Two.
func TestP8_7SecondStays(t *testing.T) {
	p := pictureOf(api.RGB, 4, 5, 4, 0)
	for _, kind := range kinds() {
		q, room, planes := inRoom(like(p, 9))
		then, thenPlanes := slices.Clone(room), deepPlanes(planes)
		told := []api.Picture{must(picture.With(p, 1, q.Planes[2])), must(picture.Paste(p, q, 0, 0)), must(picture.Two(kind, p, q))}
		var kept []api.Picture
		for _, a := range told {
			kept = append(kept, clone(a))
		}
		picture.Equal(p, q)
		picture.Check(q)
		if !isUntouched(room, then, planes, thenPlanes) {
			t.Fatal("what was handed in has changed")
		}
		spoil(room)
		for i := range told {
			if !isSame(told[i], kept[i]) {
				t.Fatal("what was handed in is kept")
			}
		}
		for _, a := range told {
			spoilPicture(a)
		}
		if !isSame(p, pictureOf(api.RGB, 4, 5, 4, 0)) {
			t.Fatal("an answer shares memory with the first one")
		}
	}
}
