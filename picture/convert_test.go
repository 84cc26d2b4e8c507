package picture_test

import (
	"testing"

	"halide/api"
	"halide/picture"
	"halide/space"
)

// converted: P8.4's words, place by place.
func converted(p api.Picture, to int) api.Picture {
	told := clone(p)
	told.Space = to
	if p.Space == to {
		return told
	}
	l := told.Planes
	for i := range l[0].S {
		l[0].S[i], l[1].S[i], l[2].S[i], _ = space.Convert(p.Space, to, p.Planes[0].S[i], p.Planes[1].S[i], p.Planes[2].S[i])
	}
	return told
}

// mixedSamples: a picture of edges in each plane beside edges of the others, and of samples by chance.
func mixedSamples(kind, planes int) api.Picture {
	p := pictureOf(kind, planes, 64, 64, 5)
	next := chance(84)
	l := edges()
	for i := range 64 * 64 {
		for n := range planes {
			s := l[(i*(2*n+1)+i/64*(n+1)+n)%len(l)]
			if i%2 == 1 {
				s = next()
			}
			if i%4 == 3 {
				s = near(one, s)
			}
			p.Planes[n].S[i] = s
		}
	}
	return p
}

func TestP8_4EveryTwoSpaces(t *testing.T) {
	for from := api.RGB; from <= api.Lifted; from++ {
		for to := api.RGB; to <= api.Lifted; to++ {
			for _, planes := range []int{3, 4} {
				for _, p := range []api.Picture{mixedSamples(from, planes), pictureOf(from, planes, 1, 1, 3), pictureOf(from, planes, 5, 2, 0)} {
					got, e := picture.Convert(p, to)
					checkPicture(t, "Convert", got, e, converted(p, to))
					if planes == 4 && !isSamePlane(got.Planes[3], p.Planes[3]) {
						t.Fatal("Convert: a fourth plane isn't copied")
					}
				}
			}
		}
	}
}

// In the space that it has already, also Plain of any number of planes.
func TestP8_4SameSpaceIsCopied(t *testing.T) {
	for _, p := range append(rightPictures(), pictureOf(api.Plain, 1, 64, 1024, 0), mixedSamples(api.LogRGB, 4), mixedSamples(api.YCC, 3)) {
		got, e := picture.Convert(p, p.Space)
		checkPicture(t, "Convert", got, e, p)
	}
}

func TestP8_4Refused(t *testing.T) {
	for _, p := range rightPictures() {
		for _, to := range wrongSpaces() {
			got, e := picture.Convert(p, to)
			checkNone(t, "Convert to no space", got, e, api.ErrPictureSpace)
		}
		for _, to := range spaces() {
			if (p.Space == api.Plain) != (to == api.Plain) {
				got, e := picture.Convert(p, to)
				checkNone(t, "Convert, one of them Plain", got, e, api.ErrPictureSpace)
			}
		}
	}
}
