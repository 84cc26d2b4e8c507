package picture_test

import (
	"math/big"
	"testing"

	"halide/api"
	"halide/picture"
)

// number: what has come of a reckoning so far: a number of 53 bits, or (isNone) a NaN.
type number struct {
	f      *big.Float
	isNone bool
}

// exactProduct: of two samples, with room for all of its bits.
func exactProduct(a, b uint32) number {
	if isNaN(a) || isNaN(b) {
		return number{isNone: true}
	}
	isNought := func(s uint32) bool { return s<<1 == 0 }
	if !isFinite(a) && isNought(b) || !isFinite(b) && isNought(a) {
		return number{isNone: true}
	}
	x, y := big.NewFloat(valueOf(a)), big.NewFloat(valueOf(b))
	return number{f: new(big.Float).SetPrec(200).Mul(x, y)}
}

// roundedSum: to 53 bits. No sum here comes near to the ends of binary64's exponents.
func roundedSum(a, b number) number {
	if a.isNone || b.isNone || a.f.IsInf() && b.f.IsInf() && a.f.Signbit() != b.f.Signbit() {
		return number{isNone: true}
	}
	return number{f: new(big.Float).SetPrec(53).Add(a.f, b.f)}
}

func asSample(n number) uint32 {
	if n.isNone {
		return made
	}
	f, _ := n.f.Float32()
	return sampleOf(f)
}

func rowTold(m [9]uint32, i int, c [3]uint32) uint32 {
	sum := roundedSum(exactProduct(m[3*i], c[0]), exactProduct(m[3*i+1], c[1]))
	return asSample(roundedSum(sum, exactProduct(m[3*i+2], c[2])))
}

func matrixTold(p api.Picture, m [9]uint32) api.Picture {
	told := clone(p)
	for i := range p.Planes[0].S {
		c := [3]uint32{p.Planes[0].S[i], p.Planes[1].S[i], p.Planes[2].S[i]}
		for n := range c {
			told.Planes[n].S[i] = rowTold(m, n, c)
		}
	}
	return told
}

func matrices() [][9]uint32 {
	unlike := [9]uint32{}
	for i := range unlike {
		unlike[i] = sampleOf(float32(i+1) * 1.25)
	}
	l := [][9]uint32{
		unlike,
		{one, 0, 0, 0, one, 0, 0, 0, one},
		{0, 0, one, 0, one, 0, one, 0, 0},
		{},
		{minusZero, minusZero, minusZero, plusZero, minusZero, minusZero, minusZero, minusZero, plusZero},
		{one, one, one, one | sign, one, one, one, one | sign, one | sign},
		{infinity, one, one, one, infinity | sign, one, one, one, made + 5},
		{greatest, greatest, greatest, greatest, greatest | sign, one, leastSmall, leastNormal, half},
	}
	next := chance(86)
	for range 12 {
		m, n := [9]uint32{}, [9]uint32{}
		for i := range m {
			m[i], n[i] = next(), near(one, next())
		}
		l = append(l, m, n)
	}
	return l
}

func TestP8_6Matrix(t *testing.T) {
	all := []api.Picture{mixedSamples(api.RGB, 3), mixedSamples(api.Plain, 4)}
	for _, space := range spaces() {
		all = append(all, pictureOf(space, 3, 9, 8, space), pictureOf(space, 4, 5, 11, space))
	}
	for _, p := range all {
		for _, m := range matrices() {
			got, e := picture.Matrix(p, m)
			checkPicture(t, "Matrix", got, e, matrixTold(p, m))
			if len(p.Planes) == 4 && !isSamePlane(got.Planes[3], p.Planes[3]) {
				t.Fatal("Matrix: a fourth plane isn't copied")
			}
		}
	}
}

// Sums that show where they are rounded: by itself each, in binary64, from the left.
func TestP8_6WhereItRounds(t *testing.T) {
	ones := [9]uint32{one, one, one, one, one, one, one, one, one}
	power := func(e int) uint32 { return uint32(e+127) << 23 }
	for _, c := range []struct {
		name    string
		a, b, c uint32
		want    uint32
	}{
		{"a sum in binary32 would lose 1", power(30), one, power(30) | sign, one},
		{"a sum in binary64 loses 1", power(60), one, power(60) | sign, plusZero},
		{"from the left", one, power(60), power(60) | sign, plusZero},
		{"from the left, the great ones first", power(60), power(60) | sign, one, one},
		{"too great only between", greatest, greatest, greatest | sign, greatest},
		{"too great", greatest, greatest, 0, infinity},
		{"too great, below 0", greatest | sign, 0, greatest | sign, infinity | sign},
		{"halfway to what is too great", greatest, 0, power(103), infinity},
		{"less than that", greatest, 0, power(103) - 1, greatest},
		{"a tie goes to the even one", one, power(-24), 0, one},
		{"and up", one + 1, power(-24), 0, one + 2},
		{"a tie, and a little more", one, power(-24), power(-50), one + 1},
		{"a tie, and less than is kept", one, power(-24), power(-60), one},
		{"noughts", minusZero, minusZero, minusZero, minusZero},
		{"noughts, one of them above", minusZero, minusZero, plusZero, plusZero},
		{"a difference of nought", one, one | sign, minusZero, plusZero},
		{"infinities", infinity, one, infinity, infinity},
		{"unlike infinities", infinity, one, infinity | sign, made},
		{"a NaN first", 0xFFC00001, one, one, made},
		{"a NaN in the middle", one, leastNaN, one, made},
		{"a NaN last", infinity, one, 0xFFFFFFFF, made},
		{"small ones", 1, 1, 1, 3},
	} {
		got, e := picture.Matrix(place(api.YCC, c.a, c.b, c.c), ones)
		checkPicture(t, c.name, got, e, place(api.YCC, c.want, c.want, c.want))
	}
}

// Products are exact: neither rounded to binary32, nor infinite between.
func TestP8_6ProductsAreExact(t *testing.T) {
	p := place(api.Plain, one+1, one+2, one, 0xFFC00001)
	got, e := picture.Matrix(p, [9]uint32{one + 1, one | sign, 0, greatest, 0, 0, leastSmall, 0, 0})
	checkPicture(t, "Matrix", got, e, place(api.Plain, 0x28800000, infinity, leastSmall, 0xFFC00001))
	p = place(api.RGB, greatest, greatest, 0)
	got, e = picture.Matrix(p, [9]uint32{greatest, greatest | sign, 0, two, one | sign, 0, infinity, 0, 0})
	checkPicture(t, "Matrix", got, e, place(api.RGB, plusZero, greatest, infinity))
	p = place(api.RGB, infinity, leastSmall, leastSmall)
	got, e = picture.Matrix(p, [9]uint32{0, one, one, minusZero, one, one, one, leastSmall, leastSmall})
	checkPicture(t, "Matrix", got, e, place(api.RGB, made, made, infinity))
}

func TestP8_6TooFewPlanes(t *testing.T) {
	for _, planes := range []int{1, 2} {
		for _, m := range matrices() {
			got, e := picture.Matrix(pictureOf(api.Plain, planes, 3, 2, 0), m)
			checkNone(t, "Matrix", got, e, api.ErrPictureForm)
		}
	}
}
