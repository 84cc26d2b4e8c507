package stat_test

import (
	"testing"

	"halide/api"
	"halide/stat"
)

// The chapter's section 'Examples', and its table of errors.

func TestErrorNumbers(t *testing.T) {
	if api.ErrStatBits != 160 || api.ErrStatNone != 161 || api.ErrStatShare != 162 {
		t.Errorf("ErrStatBits: %d, ErrStatNone: %d, ErrStatShare: %d", api.ErrStatBits, api.ErrStatNone, api.ErrStatShare)
	}
}

func checkEnds(t *testing.T, s *stat.Stat, least, last uint32) {
	t.Helper()
	if a, b, e := s.Ends(); a != least || b != last || e != api.OK {
		t.Errorf("Ends: %08X, %08X, %d, want %08X, %08X", a, b, e, least, last)
	}
}

func TestP16_4Example(t *testing.T) {
	p := rowOf(one, two, four, minusZero)
	for bits := 1; bits <= 12; bits++ {
		s := must(stat.New(bits))
		if e := s.Add(p, whole(p)); e != api.OK {
			t.Fatal(e)
		}
		checkSample(t, "Sum", s.Sum(), api.OK, seven)
		mean, e := s.Mean()
		checkSample(t, "Mean", mean, e, 0x3FE00000)
		checkEnds(t, s, minusZero, four)
		if e := s.Add(rowOf(made|sign|9), api.Rect{X1: 1, Y1: 1}); e != api.OK {
			t.Fatal(e)
		}
		checkSample(t, "Sum with a NaN", s.Sum(), api.OK, made)
		mean, e = s.Mean()
		checkSample(t, "Mean with a NaN", mean, e, made)
		checkEnds(t, s, minusZero, four)
		if s.NaNs() != 1 || s.Count() != 5 {
			t.Errorf("NaNs: %d, Count: %d", s.NaNs(), s.Count())
		}
	}
}

func TestP16_4ExampleOfAGreatSum(t *testing.T) {
	p := rowOf(power(100), one, power(100)|sign)
	s := must(stat.New(1))
	s.Add(p, whole(p))
	checkSample(t, "Sum", s.Sum(), api.OK, one)
}

func TestP16_5Example(t *testing.T) {
	p := rowOf(one, two, four, minusZero)
	least, e := stat.Rank(p, 0)
	checkSample(t, "Rank", least, e, minusZero)
	middle, e := stat.Share(p, 1, 2)
	checkSample(t, "Share", middle, e, one)
}

func TestP16_6Example(t *testing.T) {
	got, e := stat.Level(rowOf(one, two, four, four), 12)
	checkPlane(t, "Level", got, e, rowOf(quarter, half, one, one))
}
