package region

import (
	"cmp"
	"iter"
	"slices"

	"halide/api"
)

// span has the places of a row from start to end - 1.
type span struct{ start, end int }

// row has what is kept in the row y, and in those below it up to the next one that is told.
type row struct {
	y     int
	spans []span
}

// band has some span, and the same ones in each row from top to bottom - 1.
type band struct {
	top, bottom int
	spans       []span
}

// form tells bands as a normal form. It ends at one rectangle too many, as two right lists can make millions.
func form(all iter.Seq[band]) ([]api.Rect, api.Errno) {
	var l []api.Rect
	for b := range all {
		if len(l)+len(b.spans) > api.MaxRects {
			return nil, api.ErrRegionMany
		}
		for _, s := range b.spans {
			l = append(l, api.Rect{X0: s.start, Y0: b.top, X1: s.end, Y1: b.bottom})
		}
	}
	return l, api.OK
}

// bands tells, from the top, the bands of all places that keep asks for, each with as many rows as can be. Keep never asks for a place that is in neither list.
func bands(a, b []api.Rect, keep func(inA, inB bool) bool) iter.Seq[band] {
	edges := edgesOf(a, b)
	return func(yield func(band) bool) {
		var above row
		for r := range once(rows(edges, keep), hasSameSpans) {
			if len(above.spans) > 0 && !yield(band{above.y, r.y, above.spans}) {
				return
			}
			above = r
		}
	}
}

func hasSameSpans(a, b row) bool { return slices.Equal(a.spans, b.spans) }

// once gives each thing but those that are like the one it gave last.
func once[T any](all iter.Seq[T], isLike func(a, b T) bool) iter.Seq[T] {
	return func(yield func(T) bool) {
		var last T
		some := false
		for next := range all {
			if some && isLike(last, next) {
				continue
			}
			if !yield(next) {
				return
			}
			last, some = next, true
		}
	}
}

// rows tells, from the top, each row at which a rectangle begins or has ended. In the last one all have.
func rows(edges []edge, keep func(inA, inB bool) bool) iter.Seq[row] {
	return func(yield func(row) bool) {
		var crossed []edge
		ahead := edges
		for y := range once(slices.Values(turns(edges)), func(a, b int) bool { return a == b }) {
			begun := begunAt(ahead, y)
			ahead = ahead[len(begun):]
			crossed = slices.DeleteFunc(crossed, func(e edge) bool { return e.bottom == y })
			crossed = laidAmong(crossed, begun)
			if !yield(row{y, spansOf(crossed, keep)}) {
				return
			}
		}
	}
}

// edge is the left or the right side of a rectangle.
type edge struct {
	x, top, bottom int
	list           int // 0: of the first list, 1: of the second
	step           int // 1: the rectangle begins at x, -1: it has ended there
}

// edgesOf tells the sides of all rectangles that have a place: from the top, those that begin in one row from the left.
func edgesOf(lists ...[]api.Rect) []edge {
	var edges []edge
	for list, l := range lists {
		for _, r := range l {
			if hasPlace(r) {
				edges = append(edges, edge{r.X0, r.Y0, r.Y1, list, 1}, edge{r.X1, r.Y0, r.Y1, list, -1})
			}
		}
	}
	slices.SortFunc(edges, func(a, b edge) int { return cmp.Or(cmp.Compare(a.top, b.top), cmp.Compare(a.x, b.x)) })
	return edges
}

// turns tells in order, and as often as it happens, in which rows edges begin or have ended.
func turns(edges []edge) []int {
	var l []int
	for _, e := range edges {
		l = append(l, e.top, e.bottom)
	}
	slices.Sort(l)
	return l
}

// begunAt tells those edges that begin in the row y: the first ones, as none is left of the rows above.
func begunAt(ahead []edge, y int) []edge {
	n := 0
	for n < len(ahead) && ahead[n].top == y {
		n++
	}
	return ahead[:n]
}

// laidAmong puts edges in the place of their x among others, all of them from the left; from the right on, so that none is written over ahead of its own move.
func laidAmong(crossed, begun []edge) []edge {
	i, j := len(crossed)-1, len(begun)-1
	all := append(crossed, begun...)
	for j >= 0 {
		if i >= 0 && crossed[i].x > begun[j].x {
			all[i+j+1] = crossed[i]
			i--
		} else {
			all[i+j+1] = begun[j]
			j--
		}
	}
	return all
}

// spansOf tells what is kept of a row that crosses these edges. It asks once for all edges of one x, so that rectangles that touch are one span.
func spansOf(crossed []edge, keep func(inA, inB bool) bool) []span {
	var spans []span
	var in [2]int
	open := false
	for i, e := range crossed {
		in[e.list] += e.step
		if i+1 < len(crossed) && crossed[i+1].x == e.x {
			continue
		}
		kept := keep(in[0] > 0, in[1] > 0)
		if kept && !open {
			spans = append(spans, span{start: e.x})
		}
		if !kept && open {
			spans[len(spans)-1].end = e.x
		}
		open = kept
	}
	return spans
}
