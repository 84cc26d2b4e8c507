package curve

import "halide/api"

// Chain: curves one behind the other.
type Chain struct {
	curves []Curve // copies: what becomes of the curves that were handed in doesn't show
}

// Join makes a chain.
func Join(l ...*Curve) (*Chain, api.Errno) {
	if len(l) < 1 || len(l) > api.MaxChain {
		return nil, api.ErrCurveMany
	}
	c := &Chain{curves: make([]Curve, len(l))}
	for i, one := range l {
		c.curves[i] = *one
	}
	return c, api.OK
}

// At tells what the chain has at x.
func (c *Chain) At(x uint32) uint32 {
	for i := range c.curves {
		x = c.curves[i].At(x)
	}
	return x
}

// ends tells X0 and Xn of the first curve.
func (c *Chain) ends() (uint32, uint32) {
	if len(c.curves) == 0 { // a chain that Join didn't make
		return 0, 0
	}
	return c.curves[0].ends()
}

// Least tells where the chain comes to y first.
func (c *Chain) Least(y uint32) (api.Proof, api.Errno) { return least(c, y) }

// Check tells whether that is so.
func (c *Chain) Check(y uint32, p api.Proof) bool { return check(c, y, p) }

// Map tells what f answers of each sample.
func Map(f func(x uint32) uint32, s []uint32) []uint32 {
	told := make([]uint32, len(s))
	for i, x := range s {
		told[i] = f(x)
	}
	return told
}
