package dither_test

import (
	"math"
	"math/big"

	"halide/api"
)

// What the chapter says of each call, word by word, of arguments that are right; by exact numbers, where these could go wrong.

// levelTold: the quotient is rounded to binary64, that to binary32.
func levelTold(n, k int) uint32 {
	wide, _ := big.NewRat(int64(k), int64(n-1)).Float64()
	narrow, _ := new(big.Float).SetFloat64(wide).Float32()
	return math.Float32bits(narrow)
}

func unitTold(n, k int) int {
	u := new(big.Int).Mul(big.NewInt(int64(k)), big.NewInt(whole))
	return int(u.Div(u, big.NewInt(int64(n-1))).Int64())
}

// unitsOf: of each level of n its unit.
func unitsOf(n int) []int {
	var l []int
	for k := range n {
		l = append(l, unitTold(n, k))
	}
	return l
}

// valueTold: of a finite sample, by its parts.
func valueTold(s uint32) *big.Rat {
	exponent, fraction := int(s>>23&255), int64(s&0x7FFFFF)
	if exponent == 0 {
		exponent = 1
	} else {
		fraction += 1 << 23
	}
	if s >= sign {
		fraction = -fraction
	}
	v := new(big.Rat).SetInt64(fraction)
	return v.Quo(v, new(big.Rat).SetInt(new(big.Int).Lsh(big.NewInt(1), 150))).Mul(v, new(big.Rat).SetInt(new(big.Int).Lsh(big.NewInt(1), uint(exponent))))
}

// unitsTold: 2^24 times the value, from 0 to 1, rounded to the nearest, ties to even.
func unitsTold(s uint32) int {
	switch {
	case s&0x7FFFFFFF > infinity, s >= sign, s == 0:
		return 0
	case s == infinity:
		return whole
	}
	v := valueTold(s)
	if v.Cmp(big.NewRat(1, 1)) >= 0 {
		return whole
	}
	v.Mul(v, big.NewRat(whole, 1))
	down := new(big.Int).Div(v.Num(), v.Denom())
	rest := new(big.Rat).Sub(v, new(big.Rat).SetInt(down))
	if c := rest.Cmp(big.NewRat(1, 2)); c > 0 || c == 0 && down.Bit(0) == 1 {
		down.Add(down, big.NewInt(1))
	}
	return int(down.Int64())
}

// nearestTold: the first one of those at the least distance; of the units of levels.
func nearestTold(units []int, v int) int {
	best, least := 0, new(big.Int)
	for k, u := range units {
		distance := new(big.Int).Sub(big.NewInt(int64(u)), big.NewInt(int64(v)))
		distance.Abs(distance)
		if k == 0 || distance.Cmp(least) < 0 {
			best, least = k, distance
		}
	}
	return best
}

func tableTold(side, x, y int) int {
	if side == 1 {
		return 0
	}
	s := side / 2
	b := 4 * tableTold(s, x%s, y%s)
	switch {
	case x < s && y < s:
		return b
	case y < s:
		return b + 2
	case x < s:
		return b + 3
	}
	return b + 1
}

// modTold: a + b modulo m, from 0 on.
func modTold(a, b, m int) int {
	sum := new(big.Int).Add(big.NewInt(int64(a)), big.NewInt(int64(b)))
	return int(sum.Mod(sum, big.NewInt(int64(m))).Int64())
}

// orderedLevel: of u units where the table has b.
func orderedLevel(units []int, side, b, u int) int {
	k := 0
	for k+1 < len(units) && units[k+1] <= u {
		k++
	}
	if k == len(units)-1 {
		return k
	}
	g := units[k+1] - units[k]
	if 2*side*side*(u-units[k]) > (2*b+1)*g {
		return k + 1
	}
	return k
}

func orderedTold(p api.Plane, n, side, x, y int) api.Plane {
	told, units := planeOf(p.W, p.H), unitsOf(n)
	for j := 0; j < p.H; j++ {
		for i := 0; i < p.W; i++ {
			b := tableTold(side, modTold(x, i, side), modTold(y, j, side))
			told.S = append(told.S, levelTold(n, orderedLevel(units, side, b, unitsTold(p.S[j*p.W+i]))))
		}
	}
	return told
}

// floorTold: a / b rounded down, of a b above 0.
func floorTold(a, b int) int { return int(math.Floor(float64(a) / float64(b))) }

// diffuseTold: the plane, what has fallen, and v, k and e of each place. What is handed on is kept by places, also those that p hasn't.
func diffuseTold(p api.Plane, n int) (api.Plane, int, [][3]int) {
	type place struct{ x, y int }
	handed := map[place]int{}
	told, units := planeOf(p.W, p.H), unitsOf(n)
	var trail [][3]int
	for y := 0; y < p.H; y++ {
		for x := 0; x < p.W; x++ {
			v := unitsTold(p.S[y*p.W+x]) + handed[place{x, y}]
			delete(handed, place{x, y})
			k := nearestTold(units, v)
			e := v - units[k]
			a, b, c := floorTold(7*e, 16), floorTold(3*e, 16), floorTold(5*e, 16)
			handed[place{x + 1, y}] += a
			handed[place{x - 1, y + 1}] += b
			handed[place{x, y + 1}] += c
			handed[place{x + 1, y + 1}] += e - a - b - c
			told.S = append(told.S, levelTold(n, k))
			trail = append(trail, [3]int{v, k, e})
		}
	}
	fallen := 0
	for _, part := range handed { // all that is left there is beyond
		fallen += part
	}
	return told, fallen, trail
}
