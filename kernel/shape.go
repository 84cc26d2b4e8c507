package kernel

import "halide/api"

// shape: a kernel. A distance of 1 is 2 m there, so that every distance is a whole number; and all weights are multiplied by one number that makes them whole, which shares don't hang on.
type shape struct {
	reach  int // what lies further away has no weight
	weight func(d int) int
}

func isKind(kind int) bool { return api.Box <= kind && kind <= api.Cubic }

// shapeOf tells the kernel of a right kind.
func shapeOf(kind, m int) shape {
	one := 2 * m
	switch kind {
	case api.Box:
		return shape{m, func(d int) int {
			if -m <= d && d < m {
				return 1
			}
			return 0
		}}
	case api.Tent:
		return shape{one, func(d int) int { return max(one-size(d), 0) }}
	default:
		return shape{2 * one, func(d int) int { return cubic(size(d), one) }}
	}
}

func size(d int) int { return max(d, -d) }

// cubic tells Cubic's weight, 2 one^3 times: with sides of at most MaxSide it is below 2^38 at every step.
func cubic(c, one int) int {
	switch {
	case c < one:
		return 3*c*c*c - 5*c*c*one + 2*one*one*one
	case c < 2*one:
		return -c*c*c + 5*c*c*one - 8*c*one*one + 4*one*one*one
	}
	return 0
}
