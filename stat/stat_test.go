package stat_test

import (
	"fmt"
	"testing"

	"halide/api"
	"halide/stat"
)

// statOf: of a plane's samples.
func statOf(t *testing.T, bits int, p api.Plane) *stat.Stat {
	t.Helper()
	s := must(stat.New(bits))
	if e := s.Add(p, whole(p)); e != api.OK {
		t.Fatalf("Add: %d", e)
	}
	return s
}

func TestP16_1New(t *testing.T) {
	for bits := 1; bits <= 12; bits++ {
		s, e := stat.New(bits)
		if s == nil || e != api.OK {
			t.Fatalf("New(%d): %v, %d", bits, s, e)
		}
		holdStat(t, "New", s, bits, nil)
		holdStat(t, "Copy", s.Copy(), bits, nil)
	}
}

func TestP16_1NoBits(t *testing.T) {
	for _, bits := range wrongBits() {
		if s, e := stat.New(bits); s != nil || e != api.ErrStatBits {
			t.Errorf("New(%d): %v, %d", bits, s, e)
		}
	}
}

// A copy goes its own way.
func TestP16_1Copy(t *testing.T) {
	for i, p := range allPlanes() {
		bits := 1 + i%12
		s := statOf(t, bits, p)
		c := s.Copy()
		holdStat(t, "Copy", c, bits, p.S)
		more := rowOf(greatest, one|sign, made, infinity)
		s.Add(more, whole(more))
		holdStat(t, "Copy, when the first one grows", c, bits, p.S)
		c.Add(rowOf(greatest|sign), api.Rect{X1: 1, Y1: 1})
		holdStat(t, "the first one, when its copy grows", s, bits, append(clone(p).S, more.S...))
		d := c.Copy()
		c.Merge(c)
		holdStat(t, "Copy of a copy", d, bits, append(clone(p).S, greatest|sign))
		s.Merge(d)
		holdStat(t, "Copy, when it is merged", d, bits, append(clone(p).S, greatest|sign))
	}
}

// New ones don't touch one another.
func TestP16_1Apart(t *testing.T) {
	for bits := 1; bits <= 12; bits++ {
		a, b := must(stat.New(bits)), must(stat.New(bits))
		a.Add(rowOf(one, made), api.Rect{X1: 2, Y1: 1})
		holdStat(t, "another one", b, bits, nil)
		b.Add(rowOf(infinity), api.Rect{X1: 1, Y1: 1})
		holdStat(t, "the first one", a, bits, []uint32{one, made})
		holdStat(t, "a later one", must(stat.New(bits)), bits, nil)
	}
}

func TestP16_2Add(t *testing.T) {
	for i, p := range allPlanes() {
		holdStat(t, "Add", statOf(t, 1+i%12, p), 1+i%12, p.S)
	}
	for i, z := range greatSizes() {
		for _, p := range []api.Plane{counted(z[0], z[1]), filled(z[0], z[1], chance(uint64(i)))} {
			holdStat(t, "Add", statOf(t, 12-i, p), 12-i, p.S)
		}
	}
}

// rects: all that are within a size.
func rects(w, h int) []api.Rect {
	var l []api.Rect
	for y0 := range h {
		for x0 := range w {
			for y1 := y0 + 1; y1 <= h; y1++ {
				for x1 := x0 + 1; x1 <= w; x1++ {
					l = append(l, api.Rect{X0: x0, Y0: y0, X1: x1, Y1: y1})
				}
			}
		}
	}
	return l
}

func TestP16_2AddsWhatIsInTheRectangle(t *testing.T) {
	for _, z := range [][2]int{{1, 1}, {4, 3}, {1, 5}, {6, 1}, {3, 5}} {
		for _, p := range somePlanes(z[0], z[1]) {
			s := must(stat.New(5))
			var l []uint32
			for _, r := range rects(p.W, p.H) {
				part := must(stat.New(12))
				part.Add(p, r)
				holdStat(t, fmt.Sprintf("Add of %v", r), part, 12, cropTold(p, r))
				if e := s.Add(p, r); e != api.OK {
					t.Fatalf("Add of %v: %d", r, e)
				}
				l = append(l, cropTold(p, r)...)
			}
			holdStat(t, "Add of all rectangles", s, 5, l)
		}
	}
}

// checkRefusal: an error, and the stat is as it was.
func checkRefusal(t *testing.T, what string, s *stat.Stat, e, want api.Errno, was told) {
	t.Helper()
	if e != want {
		t.Fatalf("%s: %d, want %d", what, e, want)
	}
	checkTold(t, what, ask(s), was, nil)
}

func TestP16_2AddRefuses(t *testing.T) {
	full := somePlanes(3, 2)[1]
	for _, s := range []*stat.Stat{must(stat.New(3)), statOf(t, 12, full)} {
		was := ask(s)
		for _, c := range refusedPlanes() {
			for _, r := range []api.Rect{whole(c.p), {X1: 1, Y1: 1}, {}, {X0: -1, Y0: -1, X1: 1, Y1: 1}} {
				checkRefusal(t, fmt.Sprintf("Add of %d by %d, %v", c.p.W, c.p.H, r), s, s.Add(c.p, r), c.want, was)
			}
		}
		for _, p := range []api.Plane{counted(3, 2), counted(1, 1), allOf(5, 1, made)} {
			for _, r := range wrongRects(p.W, p.H) {
				checkRefusal(t, fmt.Sprintf("Add of %v", r), s, s.Add(p, r), api.ErrPlaneRect, was)
			}
		}
	}
}

func TestP16_2Merge(t *testing.T) {
	planes := append(somePlanes(3, 2), somePlanes(1, 1)...)
	for _, bits := range []int{1, 7, 12} {
		for _, p := range planes {
			for _, q := range planes {
				s, o := statOf(t, bits, p), statOf(t, bits, q)
				if e := s.Merge(o); e != api.OK {
					t.Fatalf("Merge: %d", e)
				}
				both := append(clone(p).S, q.S...)
				holdStat(t, "Merge", s, bits, both)
				holdStat(t, "what was merged", o, bits, q.S)
				s.Add(rowOf(one), api.Rect{X1: 1, Y1: 1})
				holdStat(t, "what was merged, when the other one grows", o, bits, q.S)
				o.Add(rowOf(two), api.Rect{X1: 1, Y1: 1})
				holdStat(t, "Merge, when what was merged grows", s, bits, append(both, one))
			}
		}
	}
}

func TestP16_2MergeOfNone(t *testing.T) {
	for bits := 1; bits <= 12; bits++ {
		for _, p := range somePlanes(3, 2) {
			s := statOf(t, bits, p)
			s.Merge(must(stat.New(bits)))
			holdStat(t, "Merge of none", s, bits, p.S)
			s = must(stat.New(bits))
			s.Merge(statOf(t, bits, p))
			holdStat(t, "Merge to none", s, bits, p.S)
		}
		s := must(stat.New(bits))
		s.Merge(s)
		s.Merge(must(stat.New(bits)))
		holdStat(t, "Merge of none to none", s, bits, nil)
	}
}

func TestP16_2MergeOfItself(t *testing.T) {
	for i, p := range allPlanes() {
		bits := 1 + i%12
		s := statOf(t, bits, p)
		l := clone(p).S
		for range 3 {
			if e := s.Merge(s); e != api.OK {
				t.Fatalf("Merge: %d", e)
			}
			l = append(l, l...)
			holdStat(t, "Merge of itself", s, bits, l)
		}
	}
}

func TestP16_2MergeRefuses(t *testing.T) {
	for bits := 1; bits <= 12; bits++ {
		for others := 1; others <= 12; others++ {
			if bits == others {
				continue
			}
			for _, p := range [][]uint32{{one}, {made, infinity}} {
				s, o := statOf(t, bits, rowOf(p...)), statOf(t, others, rowOf(two, minusZero))
				checkRefusal(t, "Merge", s, s.Merge(o), api.ErrStatBits, statTold(bits, p))
				holdStat(t, "what was refused", o, others, []uint32{two, minusZero})
				none := must(stat.New(others))
				checkRefusal(t, "Merge of none", s, s.Merge(none), api.ErrStatBits, statTold(bits, p))
				checkRefusal(t, "Merge to none", none, none.Merge(s), api.ErrStatBits, statTold(others, nil))
			}
		}
	}
}

// doubled: a stat of 2^31 - 1 samples that are all s.
func doubled(t *testing.T, s uint32) *stat.Stat {
	t.Helper()
	first := statOf(t, 4, rowOf(s))
	all := first.Copy()
	for range 30 {
		all.Merge(all)
		all.Merge(first)
	}
	return all
}

// As many samples as a stat may come to.
func TestP16_2AsManyAsMayBe(t *testing.T) {
	const most = 1<<31 - 1
	for _, s := range edges() {
		all := doubled(t, s)
		w := ask(all)
		nans := 0
		want := s
		if isNaN(s) {
			nans, want = most, made
		}
		if w.count != most || w.nans != nans || w.mean != want || w.meanOf != api.OK || w.histogram[classTold(s, 4)] != most {
			t.Errorf("of %08X: %v", s, w)
		}
		if nans == 0 && (w.least != s || w.last != s || w.ends != api.OK) {
			t.Errorf("Ends of %08X: %08X, %08X, %d", s, w.least, w.last, w.ends)
		}
	}
	checkSample(t, "Sum", doubled(t, one).Sum(), api.OK, power(31))
	checkSample(t, "Sum", doubled(t, greatest).Sum(), api.OK, infinity)
	checkSample(t, "Sum", doubled(t, minusZero).Sum(), api.OK, minusZero)
	checkSample(t, "Sum", doubled(t, leastSmall).Sum(), api.OK, power(31-149))
}
