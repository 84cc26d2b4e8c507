package mix_test

import (
	"slices"
	"testing"

	"halide/api"
	"halide/mix"
	"halide/picture"
)

func TestP15_2Mix(t *testing.T) {
	for i, p := range withAlpha(rightPictures()) {
		for _, q := range []api.Picture{like(p, uint64(100+i)), p} {
			for _, kind := range kinds() {
				got, e := mix.Mix(kind, p, q)
				checkPicture(t, name(kind), got, e, mixTold(kind, p, q))
				got, e = mix.Mix(kind, q, p)
				checkPicture(t, name(kind), got, e, mixTold(kind, q, p))
			}
		}
	}
}

// Each sample is One of the four, at the greatest sizes too.
func TestP15_2EachSampleIsOne(t *testing.T) {
	for i, z := range greatSizes() {
		p, q := pictureOf(i, 4, z[0], z[1], 1), pictureOf(i, 4, z[0], z[1], 2)
		for _, kind := range kinds() {
			got, e := mix.Mix(kind, p, q)
			checkPicture(t, name(kind), got, e, eachPlace(p, func(n, i int) uint32 {
				return must(mix.One(kind, p.Planes[n].S[i], p.Planes[3].S[i], q.Planes[n].S[i], q.Planes[3].S[i]))
			}))
		}
	}
}

// By hand: which of the two lies above, and that alphas are mixed as colours are, with the alphas that went in.
func TestP15_2ByHand(t *testing.T) {
	p, q := place(api.LogRGB, half, one, 0, half), place(api.LogRGB, one, 0, half, quarter)
	for _, c := range []struct {
		kind int
		want []uint32
	}{
		{1, []uint32{one, one, quarter, 0x3F200000}},         // 0.5 + 1 0.5, 1 + 0, 0 + 0.5 0.5, 0.5 + 0.25 0.5
		{2, []uint32{eighth, quarter, 0, eighth}},            // 0.5 0.25, 1 0.25, 0, 0.5 0.25
		{3, []uint32{0x3EC00000, 0x3F400000, 0, 0x3EC00000}}, // 0.5 0.75, 1 0.75, 0, 0.5 0.75
		{4, []uint32{0x3F200000, quarter, quarter, quarter}},
		{5, []uint32{0x3F600000, 0x3F400000, quarter, half}},
		{6, []uint32{0x3FC00000, one, half, 0x3F400000}},
	} {
		got, e := mix.Mix(c.kind, p, q)
		checkPicture(t, name(c.kind), got, e, place(api.LogRGB, c.want...))
	}
}

// mixRefused: the first of P15.2's errors.
func mixRefused(kind int, p, q asked) api.Errno {
	switch {
	case p.want != api.OK:
		return p.want
	case q.want != api.OK:
		return q.want
	case !slices.Contains(kinds(), kind):
		return api.ErrMixKind
	case len(p.p.Planes) != 4 || len(q.p.Planes) != 4:
		return api.ErrMixAlpha
	case p.p.Space != q.p.Space:
		return api.ErrPictureSpace
	case !isSameSize(p.p, q.p):
		return api.ErrPictureForm
	}
	return api.OK
}

func TestP15_2FirstError(t *testing.T) {
	seen := map[api.Errno]int{}
	for _, p := range allPictures() {
		if e := picture.Check(p.p); e != p.want {
			t.Fatalf("Check: %d, want %d", e, p.want)
		}
		for _, q := range allPictures() {
			for _, kind := range append(kinds(), 0, 7, 1<<32+1) {
				want := mixRefused(kind, p, q)
				seen[want]++
				got, e := mix.Mix(kind, p.p, q.p)
				if want == api.OK {
					checkPicture(t, name(kind), got, e, mixTold(kind, p.p, q.p))
				} else {
					checkNone(t, "Mix", got, e, want)
				}
			}
		}
	}
	for _, e := range []api.Errno{api.OK, api.ErrPlaneSize, api.ErrPlaneCount, api.ErrPictureForm, api.ErrPictureSpace, api.ErrMixKind, api.ErrMixAlpha} {
		if seen[e] == 0 {
			t.Errorf("error %d: no case", e)
		}
	}
}

func TestP15_2NoKind(t *testing.T) {
	p := pictureOf(api.RGB, 4, 2, 3, 0)
	for _, kind := range wrongKinds() {
		for _, q := range []api.Picture{p, pictureOf(api.RGB, 3, 2, 3, 0), pictureOf(api.YCC, 4, 2, 3, 0), pictureOf(api.RGB, 4, 3, 2, 0)} {
			got, e := mix.Mix(kind, p, q)
			checkNone(t, "Mix", got, e, api.ErrMixKind)
			got, e = mix.Mix(kind, q, p)
			checkNone(t, "Mix", got, e, api.ErrMixKind)
		}
	}
}

// Each place by itself: of Crops it tells the Crop.
func TestP15_2PlaceByPlace(t *testing.T) {
	p := pictureOf(api.YCC, 4, 13, 11, 5)
	q := like(p, 6)
	for _, r := range []api.Rect{{X1: 1, Y1: 1}, {X0: 12, Y0: 10, X1: 13, Y1: 11}, {X0: 3, Y0: 2, X1: 9, Y1: 10}, {X1: 13, Y1: 11}} {
		for _, kind := range kinds() {
			got, e := mix.Mix(kind, must(picture.Crop(p, r)), must(picture.Crop(q, r)))
			checkPicture(t, name(kind), got, e, must(picture.Crop(must(mix.Mix(kind, p, q)), r)))
		}
	}
}
