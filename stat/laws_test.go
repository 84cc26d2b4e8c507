package stat_test

import (
	"slices"
	"testing"

	"halide/api"
	"halide/stat"
)

// inParts: a stat of a plane's samples, which come rectangle by rectangle in some order, to several stats that are merged in some order.
func inParts(t *testing.T, bits int, p api.Plane, next func() uint32) *stat.Stat {
	t.Helper()
	parts := make([]*stat.Stat, 1+upTo(5, next))
	for i := range parts {
		parts[i] = must(stat.New(bits))
	}
	for _, r := range cut(p, next) {
		if e := parts[upTo(len(parts), next)].Add(p, r); e != api.OK {
			t.Fatalf("Add of %v: %d", r, e)
		}
	}
	for len(parts) > 1 {
		i, j := upTo(len(parts)-1, next), len(parts)-1
		if next()%3 == 0 {
			parts[i] = parts[i].Copy()
		}
		if e := parts[i].Merge(parts[j]); e != api.OK {
			t.Fatalf("Merge: %d", e)
		}
		parts = parts[:j]
	}
	return parts[0]
}

// cut: rectangles that have each place of a plane once, in some order.
func cut(p api.Plane, next func() uint32) []api.Rect {
	l := []api.Rect{whole(p)}
	for range upTo(9, next) {
		i := upTo(len(l), next)
		r := l[i]
		a, b := r, r
		if w := r.X1 - r.X0; next()%2 == 0 && w > 1 {
			a.X1 = r.X0 + 1 + upTo(w-1, next)
			b.X0 = a.X1
		} else if h := r.Y1 - r.Y0; h > 1 {
			a.Y1 = r.Y0 + 1 + upTo(h-1, next)
			b.Y0 = a.Y1
		} else {
			continue
		}
		l[i] = b
		l = append(l, a)
	}
	for i := range l {
		j := upTo(len(l), next)
		l[i], l[j] = l[j], l[i]
	}
	return l
}

func TestP16_7OrderAndParts(t *testing.T) {
	next := chance(167)
	for _, p := range allPlanes() {
		for _, bits := range []int{1, 6, 12} {
			want := ask(statOf(t, bits, p))
			for range 4 {
				checkTold(t, "in parts", ask(inParts(t, bits, p, next)), want, p.S)
				other := planeOf(p.H, p.W, shuffled(p.S, next)...)
				checkTold(t, "in another order, in parts", ask(inParts(t, bits, other, next)), want, p.S)
			}
		}
	}
}

// What cancels, or is too great together, in all orders.
func TestP16_7OrderOfSums(t *testing.T) {
	for _, l := range [][]uint32{
		{power(100), one, power(100) | sign, power(-100)},
		{greatest, greatest, greatest | sign, greatest | sign, leastSmall},
		{infinity, made, infinity | sign, minusZero},
		{minusZero, 0, minusZero, minusZero},
	} {
		want := statTold(4, l)
		next := chance(168)
		for range 200 {
			p := rowOf(shuffled(l, next)...)
			checkTold(t, "in some order", ask(inParts(t, 4, p, next)), want, l)
		}
	}
}

// Asking changes nothing.
func TestP16_7Asked(t *testing.T) {
	s := must(stat.New(5))
	var l []uint32
	for _, p := range somePlanes(3, 2) {
		s.Add(p, whole(p))
		l = append(l, p.S...)
		for range 3 {
			holdStat(t, "asked again", s, 5, l)
		}
	}
}

func TestP16_8RanksRise(t *testing.T) {
	for _, p := range allPlanes() {
		before := 0
		for k := range min(len(p.S), 200) {
			s := must(stat.Rank(p, k))
			if key(s) < before {
				t.Fatalf("Rank(%d) of %08X: %08X", k, few(p.S), s)
			}
			before = key(s)
		}
		if slices.ContainsFunc(p.S, isNaN) {
			continue
		}
		checkEnds(t, statOf(t, 7, p), must(stat.Rank(p, 0)), must(stat.Rank(p, len(p.S)-1)))
		checkEnds(t, statOf(t, 7, p), must(stat.Share(p, 0, 9)), must(stat.Share(p, 9, 9)))
	}
}

func TestP16_8HistogramSumsToCount(t *testing.T) {
	for i, p := range allPlanes() {
		s := statOf(t, 1+i%12, p)
		sum := 0
		for _, n := range s.Histogram() {
			sum += n
		}
		if sum != s.Count() || sum != len(p.S) {
			t.Errorf("%d of %d, Count %d", sum, len(p.S), s.Count())
		}
	}
}

// checkLevelRises: what stands higher by key comes to no less, the last one to 1.
func checkLevelRises(t *testing.T, p, levelled api.Plane) {
	t.Helper()
	places := make([]int, 0, len(p.S))
	for i, s := range p.S {
		if !isNaN(s) {
			places = append(places, i)
		}
	}
	slices.SortFunc(places, func(i, j int) int { return key(p.S[i]) - key(p.S[j]) })
	for k := range len(places) - 1 {
		if value(levelled.S[places[k]]) > value(levelled.S[places[k+1]]) {
			t.Fatalf("Level of %08X, %08X: %08X, %08X", p.S[places[k]], p.S[places[k+1]], levelled.S[places[k]], levelled.S[places[k+1]])
		}
	}
	if n := len(places); n > 0 && levelled.S[places[n-1]] != one {
		t.Fatalf("Level of the greatest one: %08X", levelled.S[places[n-1]])
	}
}

func TestP16_8LevelRises(t *testing.T) {
	for _, p := range allPlanes() {
		for bits := 1; bits <= 12; bits++ {
			checkLevelRises(t, p, must(stat.Level(p, bits)))
		}
	}
	for i, z := range greatSizes() {
		p := filled(z[0], z[1], chance(uint64(i)))
		checkLevelRises(t, p, must(stat.Level(p, 12)))
	}
}

func checkMeanWithin(t *testing.T, p api.Plane) {
	t.Helper()
	s := statOf(t, 3, p)
	mean := must(s.Mean())
	a, b, e := s.Ends()
	if e != api.OK || isNaN(mean) || value(mean) < value(a) || value(mean) > value(b) {
		t.Fatalf("Mean of %d samples %08X: %08X, Ends %08X, %08X, %d", len(p.S), few(p.S), mean, a, b, e)
	}
}

func TestP16_9MeanLiesBetween(t *testing.T) {
	for _, p := range allPlanes() {
		if !slices.ContainsFunc(p.S, func(s uint32) bool { return !isFinite(s) }) {
			checkMeanWithin(t, p)
		}
	}
	for _, a := range finites() {
		for _, b := range finites() {
			checkMeanWithin(t, rowOf(a, b))
			checkMeanWithin(t, rowOf(a, b, b, b, b, b, b))
		}
	}
	next := chance(169)
	for range 3000 {
		near := finiteByChance(next)
		checkMeanWithin(t, filled(1+upTo(30, next), 1+upTo(3, next), func() uint32 { return near&^3 | next()&3 }))
	}
}
