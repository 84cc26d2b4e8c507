package picture_test

import (
	"math/bits"
	"testing"

	"halide/api"
	"halide/picture"
)

// placeByPlace: P8.9's calls, of a picture of three planes or four.
func placeByPlace() []call {
	l := []call{
		{"Map", func(p api.Picture) (api.Picture, api.Errno) { return picture.Map(p, 1, bits.Reverse32) }},
		{"Map in all", func(p api.Picture) (api.Picture, api.Errno) { return picture.Map(p, -1, bits.Reverse32) }},
		{"Affine", func(p api.Picture) (api.Picture, api.Errno) { return picture.Affine(p, -1, 0x3FA12345, 0xBE765432) }},
		{"Between", func(p api.Picture) (api.Picture, api.Errno) { return picture.Between(p, 2, 0xBF800000, half) }},
	}
	for to := api.RGB; to <= api.Lifted; to++ {
		l = append(l, call{"Convert", func(p api.Picture) (api.Picture, api.Errno) { return picture.Convert(p, to) }})
	}
	for _, m := range matrices()[:8] {
		l = append(l, call{"Matrix", func(p api.Picture) (api.Picture, api.Errno) { return picture.Matrix(p, m) }})
	}
	return l
}

func TestP8_9PlaceByPlace(t *testing.T) {
	for space := api.RGB; space <= api.Lifted; space++ {
		for _, p := range []api.Picture{pictureOf(space, 3, 13, 11, 0), pictureOf(space, 4, 64, 9, 1)} {
			q := like(p, 40)
			for _, r := range rectsWithin(p.Planes[0].W, p.Planes[0].H) {
				for _, c := range placeByPlace() {
					got, e := c.do(must(picture.Crop(p, r)))
					checkPicture(t, c.name+" of a Crop", got, e, must(picture.Crop(must(c.do(p)), r)))
				}
				for _, kind := range kinds() {
					got, e := picture.Two(kind, must(picture.Crop(p, r)), must(picture.Crop(q, r)))
					checkPicture(t, "Two of Crops", got, e, must(picture.Crop(must(picture.Two(kind, p, q)), r)))
				}
			}
		}
	}
}

func TestP8_9LiftedAndBack(t *testing.T) {
	for _, planes := range []int{3, 4} {
		for _, p := range []api.Picture{mixedSamples(api.RGB, planes), pictureOf(api.RGB, planes, 1, 1, 8), pictureOf(api.RGB, planes, 1024, 64, 3)} {
			lifted := must(picture.Convert(p, api.Lifted))
			got, e := picture.Convert(lifted, api.RGB)
			checkPicture(t, "Convert to Lifted and back", got, e, p)
			back := must(picture.Convert(inSpace(p, api.Lifted), api.RGB))
			got, e = picture.Convert(back, api.Lifted)
			checkPicture(t, "Convert from Lifted and back", got, e, inSpace(p, api.Lifted))
		}
	}
}

func pictures() []api.Picture {
	return append(rightPictures(), mixedSamples(api.RGB, 3), mixedSamples(api.Plain, 4), mixedSamples(api.Lifted, 4))
}

func TestP8_10AffineByOne(t *testing.T) {
	keeps := func(s uint32) uint32 {
		if isNaN(s) {
			return made
		}
		return s
	}
	for _, p := range pictures() {
		for _, n := range planeNumbers(p) {
			got, e := picture.Affine(p, n, one, minusZero)
			checkPicture(t, "Affine by 1 and -0", got, e, in(p, n, keeps))
		}
	}
}

func TestP8_10MatrixOfOnes(t *testing.T) {
	for _, p := range pictures() {
		if len(p.Planes) < 3 {
			continue
		}
		got := must(picture.Matrix(p, [9]uint32{one, 0, 0, 0, one, 0, 0, 0, one}))
		for i := range p.Planes[0].S {
			a, b, c := p.Planes[0].S[i], p.Planes[1].S[i], p.Planes[2].S[i]
			if !isFinite(a) || !isFinite(b) || !isFinite(c) {
				continue
			}
			if valueOf(got.Planes[0].S[i]) != valueOf(a) || valueOf(got.Planes[1].S[i]) != valueOf(b) || valueOf(got.Planes[2].S[i]) != valueOf(c) {
				t.Fatalf("Matrix of ones of %08X, %08X, %08X: %08X, %08X, %08X", a, b, c, got.Planes[0].S[i], got.Planes[1].S[i], got.Planes[2].S[i])
			}
		}
	}
}

func TestP8_10BetweenIsGreatestAndLeast(t *testing.T) {
	l := edges()
	for i, p := range pictures() {
		for j := range 9 {
			lo, hi := l[(i+7*j)%len(l)], l[(5*i+3*j)%len(l)]
			of := func(s uint32) api.Picture {
				return must(picture.New(p.Space, len(p.Planes), p.Planes[0].W, p.Planes[0].H, s))
			}
			want := must(picture.Two(api.Least, must(picture.Two(api.Greatest, p, of(lo))), of(hi)))
			got, e := picture.Between(p, -1, lo, hi)
			checkPicture(t, "Between", got, e, want)
		}
	}
}

// Their answers have the bits of the one or the other, whichever comes first.
func TestP8_10LeastAndGreatest(t *testing.T) {
	for i, p := range pictures() {
		q := like(p, i+11)
		least, most := must(picture.Two(api.Least, p, q)), must(picture.Two(api.Greatest, p, q))
		checkPicture(t, "Least", must(picture.Two(api.Least, q, p)), api.OK, least)
		checkPicture(t, "Greatest", must(picture.Two(api.Greatest, q, p)), api.OK, most)
		checkPicture(t, "Least of one", must(picture.Two(api.Least, p, p)), api.OK, p)
		checkPicture(t, "Greatest of one", must(picture.Two(api.Greatest, p, p)), api.OK, p)
		for n := range p.Planes {
			for j, s := range p.Planes[n].S {
				a, b, other := least.Planes[n].S[j], most.Planes[n].S[j], q.Planes[n].S[j]
				if !(a == s && b == other || a == other && b == s) {
					t.Fatalf("Least and Greatest of %08X and %08X: %08X, %08X", s, other, a, b)
				}
			}
		}
	}
}
