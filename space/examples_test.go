package space_test

import (
	"testing"

	"halide/api"
	"halide/space"
)

// The chapter's section 'Examples', and its table of errors.

func TestExamplesOfYCC(t *testing.T) {
	below := uint32(infinity | sign)
	checkThree(t, "ToYCC", of(space.ToYCC(one, one, one)), three{one, plusZero, plusZero}, three{one, one, one})
	rgb, ycc := three{one, two, four}, three{sampleOf(2.25), sampleOf(-0.25), sampleOf(-1.5)}
	checkThree(t, "ToYCC", of(space.ToYCC(one, two, four)), ycc, rgb)
	checkThree(t, "FromYCC", of(space.FromYCC(ycc[0], ycc[1], ycc[2])), rgb, ycc)
	rgb, ycc = three{infinity, one, one}, three{infinity, below, infinity}
	checkThree(t, "ToYCC", of(space.ToYCC(infinity, one, one)), ycc, rgb)
	checkThree(t, "FromYCC", of(space.FromYCC(infinity, below, infinity)), three{infinity, made, made}, ycc)
}

func TestExamplesOfLogAndExp(t *testing.T) {
	check(t, "Log", space.Log(sampleOf(8)), sampleOf(3), sampleOf(8))
	check(t, "Log", space.Log(sampleOf(3)), sampleOf(1.5), sampleOf(3))
	check(t, "Log", space.Log(one|sign), made, one|sign)
	check(t, "Log", space.Log(minusZero), 0xFF800000, minusZero)
	check(t, "Log", space.Log(greatest), sampleOf(128), greatest)
	check(t, "Exp", space.Exp(half), sampleOf(1.5), half)
	check(t, "Exp", space.Exp(sampleOf(-127)), plusZero, sampleOf(-127))
	check(t, "Exp", space.Exp(sampleOf(128)), infinity, sampleOf(128))
}

func TestExamplesOfLift(t *testing.T) {
	checkThree(t, "Lift", of(space.Lift(one, one, one)), three{one, 0, 0}, three{one, one, one})
	checkThree(t, "Lift", of(space.Lift(3, 2, 0)), three{1, 1, 3}, three{3, 2, 0})
	checkThree(t, "Drop", of(space.Drop(1, 1, 3)), three{3, 2, 0}, three{1, 1, 3})
}

func TestErrors(t *testing.T) {
	if api.ErrSpaceKind != 70 {
		t.Errorf("ErrSpaceKind: %d", api.ErrSpaceKind)
	}
	if _, _, _, e := space.Convert(api.Lifted+1, api.RGB, 1, 2, 3); e != 70 {
		t.Errorf("no such space: %d", e)
	}
	if _, _, _, e := space.Convert(api.RGB, api.Plain, 1, 2, 3); e != 70 {
		t.Errorf("none that it can be brought to: %d", e)
	}
}
