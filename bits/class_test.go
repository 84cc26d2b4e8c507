package bits_test

import (
	"math"
	"math/big"
	"testing"

	"halide/api"
	"halide/bits"
)

func TestP1_1ClassOfEdges(t *testing.T) {
	for _, c := range []struct {
		s    uint32
		want int
	}{
		{plusZero, api.ClassZero},
		{leastSmall, api.ClassSmall}, {0x00400000, api.ClassSmall}, {greatestSmall, api.ClassSmall},
		{leastNormal, api.ClassNormal}, {one, api.ClassNormal}, {greatest, api.ClassNormal},
		{infinity, api.ClassInf},
		{leastNaN, api.ClassNaN}, {quietNaN, api.ClassNaN}, {lastNaN, api.ClassNaN},
	} {
		for _, s := range []uint32{c.s, c.s | sign} {
			if got := bits.Class(s); got != c.want {
				t.Errorf("Class(%08X): %d, want %d", s, got, c.want)
			}
		}
	}
}

func classByValue(s uint32) int {
	f := math.Float32frombits(s)
	size := math.Abs(float64(f))
	switch {
	case f != f:
		return api.ClassNaN
	case math.IsInf(size, 0):
		return api.ClassInf
	case size == 0:
		return api.ClassZero
	case size < 0x1p-126:
		return api.ClassSmall
	}
	return api.ClassNormal
}

func TestP1_1ClassIsWhatTheValueSays(t *testing.T) {
	for _, s := range sweep() {
		want := classByValue(s)
		if got := bits.Class(s); got != want {
			t.Fatalf("Class(%08X): %d, want %d", s, got, want)
		}
		if got := bits.IsNaN(s); got != (want == api.ClassNaN) {
			t.Fatalf("IsNaN(%08X): %v", s, got)
		}
	}
}

func TestP1_1MadeChangesNaNsAlone(t *testing.T) {
	for _, s := range sweep() {
		want := s
		if notANumber(s) {
			want = 0x7FC00000
		}
		if got := bits.Made(s); got != want {
			t.Fatalf("Made(%08X): %08X, want %08X", s, got, want)
		}
	}
}

func TestP1_2PartsOfEdges(t *testing.T) {
	for _, c := range []struct {
		s    uint32
		n, e int
	}{
		{plusZero, 0, -149}, {minusZero, 0, -149},
		{leastSmall, 1, -149}, {leastSmall | sign, -1, -149},
		{greatestSmall, 8388607, -149}, {greatestSmall | sign, -8388607, -149},
		{leastNormal, 8388608, -149}, {leastNormal | sign, -8388608, -149},
		{0x00FFFFFF, 16777215, -149}, {0x01000000, 8388608, -148},
		{one, 8388608, -23}, {one | sign, -8388608, -23},
		{greatest, 16777215, 104}, {greatest | sign, -16777215, 104},
	} {
		n, e, ok := bits.Parts(c.s)
		if n != c.n || e != c.e || !ok {
			t.Errorf("Parts(%08X): %d, %d, %v, want %d, %d, true", c.s, n, e, ok, c.n, c.e)
		}
	}
}

func TestP1_2PartsOfNoFiniteSample(t *testing.T) {
	for _, s := range []uint32{infinity, leastNaN, quietNaN, lastNaN, infinity | sign, leastNaN | sign, quietNaN | sign, lastNaN | sign} {
		if n, e, ok := bits.Parts(s); n != 0 || e != 0 || ok {
			t.Errorf("Parts(%08X): %d, %d, %v, want 0, 0, false", s, n, e, ok)
		}
	}
}

func TestP1_2PartsTellTheValueInOneForm(t *testing.T) {
	for _, s := range sweep() {
		n, e, ok := bits.Parts(s)
		if finite := s&0x7F800000 != 0x7F800000; ok != finite {
			t.Fatalf("Parts(%08X): %v", s, ok)
		}
		if !ok {
			continue
		}
		if math.Ldexp(float64(n), e) != value(s) {
			t.Fatalf("Parts(%08X): %d, %d: another value", s, n, e)
		}
		size := max(n, -n)
		if size >= 1<<24 || e < -149 || e > 104 || size < 1<<23 && e != -149 {
			t.Fatalf("Parts(%08X): %d, %d: another form", s, n, e)
		}
	}
}

func TestP1_2FromPartsOfEdges(t *testing.T) {
	for _, c := range []struct {
		n, e int
		want uint32
	}{
		{1, 0, one}, {-3, 1, 0xC0C00000}, {2, -1, one},
		{0, 0, plusZero}, {0, math.MaxInt, plusZero}, {0, math.MinInt, plusZero},
		{1, -149, leastSmall}, {-1, -149, leastSmall | sign}, {2, -150, leastSmall}, {4, -151, leastSmall},
		{math.MinInt, -212, leastSmall | sign}, {1 << 62, -211, leastSmall},
		{8388607, -149, greatestSmall}, {16777214, -150, greatestSmall},
		{8388608, -149, leastNormal}, {1, -126, leastNormal}, {1 << 24, -150, leastNormal}, {-1, -126, leastNormal | sign},
		{16777215, -149, 0x00FFFFFF}, {16777215, 0, 0x4B7FFFFF}, {16777216, 0, 0x4B800000}, {16777218, 0, 0x4B800001},
		{16777215, 104, greatest}, {-16777215, 104, greatest | sign}, {16777215 << 39, 65, greatest},
		{1, 127, 0x7F000000}, {3, 126, 0x7F400000},
		{math.MinInt, 0, 0xDF000000}, {math.MinInt, 64, 0xFF000000}, {1 << 62, -62, one},
	} {
		s, ok := bits.FromParts(c.n, c.e)
		if s != c.want || !ok {
			t.Errorf("FromParts(%d, %d): %08X, %v, want %08X, true", c.n, c.e, s, ok, c.want)
		}
	}
}

func TestP1_2FromPartsOfNoSample(t *testing.T) {
	for _, c := range []struct{ n, e int }{
		{16777217, 0}, {-16777217, 0}, {33554434, -1}, {math.MaxInt, 0}, {-math.MaxInt, 0}, // too many bits
		{1, -150}, {3, -150}, {-1, -150}, {1 << 62, -212}, {math.MinInt, -213}, {8388609, -150}, // too fine
		{1, 128}, {-1, 128}, {3, 127}, {16777215, 105}, {1 << 24, 104}, {math.MinInt, 65}, {1 << 62, 127}, // too great
		{1, math.MaxInt}, {1 << 62, math.MaxInt}, {math.MinInt, math.MaxInt}, {math.MinInt, math.MaxInt - 62}, {math.MaxInt, math.MaxInt},
		{1, math.MinInt}, {1 << 62, math.MinInt}, {math.MinInt, math.MinInt}, {math.MaxInt, math.MinInt},
	} {
		if s, ok := bits.FromParts(c.n, c.e); s != 0 || ok {
			t.Errorf("FromParts(%d, %d): %08X, %v, want 0, false", c.n, c.e, s, ok)
		}
	}
}

// wholeNumbers: sizes about each power of two, short and long, of both signs.
func wholeNumbers() []int {
	var all []int
	for shift := range 63 {
		for _, n := range []int{1, 3, 5, 0x155555, 8388607, 8388609, 16777213, 16777215, 16777217, 33554431} {
			if n <= math.MaxInt>>shift {
				all = append(all, n<<shift, -(n << shift), n<<shift-1, 1-n<<shift)
			}
		}
	}
	return append(all, math.MaxInt, -math.MaxInt, math.MinInt, math.MinInt+1)
}

// byLibrary: the sample that is just n times 2^e, as math/big rounds it.
func byLibrary(n, e int) (uint32, bool) {
	x := new(big.Float).SetInt64(int64(n))
	f, how := x.SetMantExp(x, e).Float32()
	if how != big.Exact || math.IsInf(float64(f), 0) {
		return 0, false
	}
	return math.Float32bits(f), true
}

func TestP1_2FromPartsIsExactOrNone(t *testing.T) {
	for _, n := range wholeNumbers() {
		for e := -220; e <= 135; e++ {
			want, is := byLibrary(n, e)
			if s, ok := bits.FromParts(n, e); s != want || ok != is {
				t.Fatalf("FromParts(%d, %d): %08X, %v, want %08X, %v", n, e, s, ok, want, is)
			}
		}
	}
}

func TestP1_6FromPartsOfParts(t *testing.T) {
	for _, s := range sweep() {
		n, e, ok := bits.Parts(s)
		if !ok {
			continue
		}
		want := s
		if s == minusZero {
			want = plusZero
		}
		if got, ok := bits.FromParts(n, e); got != want || !ok {
			t.Fatalf("FromParts(Parts(%08X)): %08X, %v", s, got, ok)
		}
	}
}

func TestP1_6PartsOfFromParts(t *testing.T) {
	told := 0
	for _, n := range append(wholeNumbers(), 0) {
		for e := -220; e <= 135; e++ {
			s, ok := bits.FromParts(n, e)
			if !ok {
				continue
			}
			told++
			m, f, ok := bits.Parts(s)
			a := new(big.Float).SetMantExp(new(big.Float).SetInt64(int64(n)), e)
			b := new(big.Float).SetMantExp(new(big.Float).SetInt64(int64(m)), f)
			if !ok || a.Cmp(b) != 0 {
				t.Fatalf("Parts(FromParts(%d, %d)): %d, %d, %v: another number", n, e, m, f, ok)
			}
		}
	}
	if told == 0 {
		t.Error("no number was told")
	}
}
