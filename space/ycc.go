package space

// ycc: sums and differences. Each sum of float64s stands in a conversion: it is rounded before anything else is done with it.
type ycc struct{}

func (ycc) fromRGB(c three) three {
	r, g, b := number(c[0]), number(c[1]), number(c[2])
	s := float64(r + b)
	twice := float64(2 * g)
	return three{
		sample(float64(s+twice) / 4),
		sample(float64(twice-s) / 4),
		sample(float64(r-b) / 2),
	}
}

func (ycc) toRGB(c three) three {
	y, cg, co := number(c[0]), number(c[1]), number(c[2])
	t := float64(y - cg)
	return three{
		sample(float64(t + co)),
		sample(float64(y + cg)),
		sample(float64(t - co)),
	}
}

// ToYCC tells a mean and differences.
func ToYCC(r, g, b uint32) (uint32, uint32, uint32) {
	c := ycc{}.fromRGB(three{r, g, b})
	return c[0], c[1], c[2]
}

// FromYCC goes back.
func FromYCC(y, cg, co uint32) (uint32, uint32, uint32) {
	c := ycc{}.toRGB(three{y, cg, co})
	return c[0], c[1], c[2]
}
