package blur

import (
	"halide/api"
	"halide/plane"
)

// lines: how a plane is told line by line.
type lines interface {
	count(p api.Plane) int           // how many lines it has
	length(p api.Plane) int          // how many samples each of them has
	at(p api.Plane, line, i int) int // where in its list a line's i-th sample stands
}

type rows struct{}

func (rows) count(p api.Plane) int { return p.H }

func (rows) length(p api.Plane) int { return p.W }

func (rows) at(p api.Plane, line, i int) int { return line*p.W + i }

type columns struct{}

func (columns) count(p api.Plane) int { return p.W }

func (columns) length(p api.Plane) int { return p.H }

func (columns) at(p api.Plane, line, i int) int { return i*p.W + line }

// sweep: what is made of each sample of a line, by the window of those up to radius steps from it.
type sweep struct {
	radius, border int
	mix            func(window []float64) uint32
}

// along makes a plane of the same size, of new memory.
func (w sweep) along(l lines, p api.Plane) api.Plane {
	told := api.Plane{W: p.W, H: p.H, S: make([]uint32, len(p.S))}
	places := w.places(l.length(p))
	numbers := make([]float64, len(places))
	for line := range l.count(p) {
		for i, place := range places {
			numbers[i] = number(p.S[l.at(p, line, place)])
		}
		for i := range l.length(p) {
			told.S[l.at(p, line, i)] = w.mix(numbers[i : i+2*w.radius+1])
		}
	}
	return told
}

// places tells which places stand for a line's, and for those up to radius beyond its ends: every line asks the same.
func (w sweep) places(length int) []int {
	l := make([]int, length+2*w.radius)
	for i := range l {
		l[i], _ = plane.Border(w.border, length, i-w.radius) // a border and a length that are right
	}
	return l
}
