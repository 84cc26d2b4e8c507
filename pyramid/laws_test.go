package pyramid_test

import (
	"fmt"
	"slices"
	"testing"

	"halide/api"
	"halide/pyramid"
)

func TestP14_6JoinOfSplit(t *testing.T) {
	for _, z := range append(someSizes(), greatSizes()...) {
		for _, p := range somePlanes(z[0], z[1]) {
			coarse, fine, e := pyramid.Split(p)
			if e != api.OK {
				t.Fatalf("Split: %d", e)
			}
			back, e := pyramid.Join(coarse, fine)
			checkPlane(t, fmt.Sprintf("Join of Split of %v", z), back, e, p)
		}
	}
}

func TestP14_6JoinOfSplitOfEdges(t *testing.T) {
	all := edges()
	for _, a := range all {
		for _, b := range all {
			for _, p := range []api.Plane{rowOf(a), rowOf(a, b), columnOf(a, b), planeOf(2, 2, a, b, b, a), planeOf(3, 2, a, a, b, b, a, b)} {
				coarse, fine, _ := pyramid.Split(p)
				back, e := pyramid.Join(coarse, fine)
				checkPlane(t, fmt.Sprintf("Join of Split of %08X", p.S), back, e, p)
			}
		}
	}
}

func TestP14_6RestoreOfBuild(t *testing.T) {
	for _, z := range append(someSizes(), [2]int{1024, 64}, [2]int{1, 1023}) {
		for _, p := range somePlanes(z[0], z[1]) {
			for levels := range api.MaxLevels + 1 {
				back, e := pyramid.Restore(must(pyramid.Build(p, levels)))
				checkPlane(t, fmt.Sprintf("Restore of Build of %v, %d", z, levels), back, e, p)
			}
		}
	}
}

// Of planes that no Split has told: what they Join to is split into others, maybe, that Join to the same.
func TestP14_6SplitOfJoin(t *testing.T) {
	eachPair(func(coarse, fine api.Plane) {
		p := must(pyramid.Join(coarse, fine))
		otherCoarse, otherFine, e := pyramid.Split(p)
		if e != api.OK {
			t.Fatalf("Split: %d", e)
		}
		back, e := pyramid.Join(otherCoarse, otherFine)
		checkPlane(t, "Join of Split of Join", back, e, p)
	})
}

// checkConstant: of a sample that isn't a NaN.
func checkConstant(t *testing.T, w, h int, s uint32) {
	t.Helper()
	p := allOf(w, h, s)
	what := fmt.Sprintf("%d by %d of %08X", w, h, s)
	smaller := allOf(halfTold(w), halfTold(h), s)
	got, e := pyramid.Reduce(p)
	checkPlane(t, "Reduce of "+what, got, e, smaller)
	got, e = pyramid.Expand(smaller, w, h)
	checkPlane(t, "Expand to "+what, got, e, p)
	coarse, fine, e := pyramid.Split(p)
	checkPlane(t, "Split, the coarse plane of "+what, coarse, e, smaller)
	checkPlane(t, "Split, the fine plane of "+what, fine, e, allOf(w, h, 0))
}

func TestP14_7OneSample(t *testing.T) {
	for _, z := range someSizes() {
		for _, s := range slices.Concat(finites(), infinites()) {
			checkConstant(t, z[0], z[1], s)
		}
	}
	for _, z := range greatSizes() {
		checkConstant(t, z[0], z[1], 0x40490FDB)
		checkConstant(t, z[0], z[1], greatest|sign)
	}
}

func TestP14_7OneSampleByChance(t *testing.T) {
	next := chance(7)
	for range 20000 {
		checkConstant(t, 3, 2, finiteByChance(next))
	}
}

func TestP14_7AllLevels(t *testing.T) {
	for _, s := range slices.Concat(finites(), infinites()) {
		l := must(pyramid.Build(allOf(21, 10, s), api.MaxLevels))
		for k, p := range l[:api.MaxLevels] {
			checkPlane(t, fmt.Sprintf("the level %d of %08X", k, s), p, api.OK, allOf(p.W, p.H, 0))
		}
		checkPlane(t, "the last plane", l[api.MaxLevels], api.OK, rowOf(s))
	}
}

// raised: a plane none of whose samples is below p's by value: many a little above, some far, a -0 the other nought.
func raised(p api.Plane, next func() uint32) api.Plane {
	told := clone(p)
	for i, s := range told.S {
		other := finiteByChance(next)
		switch {
		case next()%3 == 0 && value(other) > value(s):
			told.S[i] = other
		case s == minusZero:
			told.S[i] = 0
		case s&sign != 0 && next()%2 == 0:
			told.S[i] = s - 1
		case s&sign == 0 && s < greatest && next()%2 == 0:
			told.S[i] = s + 1
		}
	}
	return told
}

func checkBelow(t *testing.T, what string, below, above api.Plane) {
	t.Helper()
	for i := range below.S {
		if isNaN(below.S[i]) || isNaN(above.S[i]) || value(below.S[i]) > value(above.S[i]) {
			t.Fatalf("%s: %08X of what is below, %08X of what is above", what, below.S[i], above.S[i])
		}
	}
}

func TestP14_8KeepsOrder(t *testing.T) {
	next := chance(8)
	for _, z := range append(someSizes(), [2]int{128, 128}) {
		for _, p := range finitePlanes(z[0], z[1]) {
			for range 5 {
				q := raised(p, next)
				checkBelow(t, "Reduce", must(pyramid.Reduce(p)), must(pyramid.Reduce(q)))
				checkBelow(t, "Expand", must(pyramid.Expand(p, 2*p.W, 2*p.H)), must(pyramid.Expand(q, 2*p.W, 2*p.H)))
			}
		}
	}
}

func checkWithin(t *testing.T, what string, told, p api.Plane) {
	t.Helper()
	least, most := value(p.S[0]), value(p.S[0])
	for _, s := range p.S {
		least, most = min(least, value(s)), max(most, value(s))
	}
	for _, s := range told.S {
		if isNaN(s) || value(s) < least || value(s) > most {
			t.Fatalf("%s: %08X isn't from %v to %v", what, s, least, most)
		}
	}
}

func TestP14_8NoNewExtremes(t *testing.T) {
	for _, z := range append(someSizes(), [2]int{128, 128}) {
		for _, p := range finitePlanes(z[0], z[1]) {
			checkWithin(t, "Reduce", must(pyramid.Reduce(p)), p)
			checkWithin(t, "Expand", must(pyramid.Expand(p, 2*p.W, 2*p.H)), p)
		}
	}
}

// reducedFrom: whether Reduce's sample at i, of a side, hangs on that place.
func reducedFrom(i, from int) bool { return 2*i-2 <= from && from <= 2*i+2 }

// expandedFrom: whether Expand's sample at x, of a side, hangs on that place: at most 1 from half of x, if that is whole, else one of the two next to it.
func expandedFrom(x, from int) bool {
	if x%2 == 0 {
		return x/2-1 <= from && from <= x/2+1
	}
	return from == x/2 || from == x/2+1
}

// checkHangs: the sample of told at each place hangs on the places that are near, on each of them, and on no others.
func checkHangs(t *testing.T, p api.Plane, call func(api.Plane) api.Plane, near func(i, from int) bool) {
	t.Helper()
	next := chance(9)
	want := call(p)
	seen := make([]api.Plane, len(p.S)) // with a NaN at each place
	for j := range p.S {
		q := clone(p)
		q.S[j] = infinity + 1
		seen[j] = call(q)
	}
	for i, s := range want.S {
		other := clone(p)
		for j := range p.S {
			in := near(i%want.W, j%p.W) && near(i/want.W, j/p.W)
			if !in {
				other.S[j] = oneOf(edges(), next)
			}
			if isNaN(seen[j].S[i]) != in {
				t.Fatalf("%d by %d: at %d, with a NaN at %d: %08X", p.W, p.H, i, j, seen[j].S[i])
			}
		}
		if got := call(other).S[i]; got != s {
			t.Fatalf("%d by %d: at %d %08X of what is another plane elsewhere, else %08X", p.W, p.H, i, got, s)
		}
	}
}

func TestP14_9ReduceHangsOnNearPlaces(t *testing.T) {
	for _, z := range [][2]int{{1, 1}, {2, 5}, {9, 4}, {8, 7}, {12, 1}, {1, 13}} {
		checkHangs(t, finitePlanes(z[0], z[1])[0], func(p api.Plane) api.Plane { return must(pyramid.Reduce(p)) }, reducedFrom)
	}
}

func TestP14_9ExpandHangsOnNearPlaces(t *testing.T) {
	for _, z := range [][2]int{{1, 1}, {2, 3}, {5, 4}, {4, 5}, {7, 1}, {1, 6}} {
		for _, less := range [][2]int{{0, 0}, {1, 0}, {0, 1}, {1, 1}} {
			checkHangs(t, finitePlanes(z[0], z[1])[0], func(p api.Plane) api.Plane { return must(pyramid.Expand(p, 2*p.W-less[0], 2*p.H-less[1])) }, expandedFrom)
		}
	}
}
