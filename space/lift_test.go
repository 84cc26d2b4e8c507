package space_test

import (
	"math/rand"
	"testing"

	"halide/space"
)

const round = 1 << 32

// within: modulo 2^32.
func within(n int64) int64 { return (n%round + round) % round }

// h: as P7.3 says it.
func h(d int64) int64 {
	d = within(d)
	if d >= round/2 {
		d -= round
	}
	if d%2 != 0 {
		d-- // down, also below 0
	}
	return d / 2
}

// liftTold: what P7.3 says, word by word.
func liftTold(c three) three {
	r, g, b := int64(keyOf(c[0])), int64(keyOf(c[1])), int64(keyOf(c[2]))
	co := within(r - b)
	t := within(b + h(co))
	cg := within(g - t)
	y := within(t + h(cg))
	return three{ofKey(uint32(y)), ofKey(uint32(within(cg + round/2))), ofKey(uint32(within(co + round/2)))}
}

// liftThrees: those of threes, and of keys about 0, about the middle, and about the last one, where they go round.
func liftThrees(each func(c three)) {
	threes(each)
	var keys []uint32
	for _, k := range []uint32{0, 1 << 30, 1 << 31, 3 << 30} {
		keys = append(keys, k-2, k-1, k, k+1, k+2)
	}
	for _, a := range keys {
		for _, b := range keys {
			for _, c := range keys {
				each(three{ofKey(a), ofKey(b), ofKey(c)})
			}
		}
	}
	r := rand.New(rand.NewSource(73))
	for range 100000 {
		each(three{r.Uint32(), r.Uint32(), r.Uint32()})
	}
}

func TestP7_3Lift(t *testing.T) {
	liftThrees(func(c three) {
		checkThree(t, "Lift", of(space.Lift(c[0], c[1], c[2])), liftTold(c), c)
	})
}

func TestP7_3Drop(t *testing.T) {
	liftThrees(func(c three) {
		told := liftTold(c)
		checkThree(t, "Drop", of(space.Drop(told[0], told[1], told[2])), c, told)
		checkThree(t, "Lift of Drop", liftTold(of(space.Drop(c[0], c[1], c[2]))), c, c)
	})
}

func TestP7_3LiftAtEdges(t *testing.T) {
	for _, c := range []struct {
		what        string
		rgb, lifted [3]uint32 // keys; y, and both differences as P7.3 reckons them
	}{
		{"all one", [3]uint32{77, 77, 77}, [3]uint32{77, 0, 0}},
		{"co is -1: its half is -1", [3]uint32{9, 9, 10}, [3]uint32{9, 0, 1<<32 - 1}},
		{"cg is -1: its half is -1", [3]uint32{10, 9, 10}, [3]uint32{9, 1<<32 - 1, 0}},
		{"co is 2^31 - 1", [3]uint32{1<<31 - 1, 0, 0}, [3]uint32{1<<29 - 1, 1<<32 - (1<<30 - 1), 1<<31 - 1}},
		{"co is 2^31: taken as -2^31", [3]uint32{1 << 31, 0, 0}, [3]uint32{1<<32 - 1<<29, 1 << 30, 1 << 31}},
		{"co goes round to 1", [3]uint32{0, 0, 1<<32 - 1}, [3]uint32{1<<32 - 1, 1, 1}},
		{"co goes round to -1", [3]uint32{1<<32 - 1, 0, 0}, [3]uint32{1<<32 - 1, 1, 1<<32 - 1}},
	} {
		rgb := three{ofKey(c.rgb[0]), ofKey(c.rgb[1]), ofKey(c.rgb[2])}
		want := three{ofKey(c.lifted[0]), ofKey(c.lifted[1] ^ 1<<31), ofKey(c.lifted[2] ^ 1<<31)}
		if got := of(space.Lift(rgb[0], rgb[1], rgb[2])); got != want {
			t.Errorf("%s: Lift(%08X): %08X, want %08X", c.what, rgb, got, want)
		}
		if got := of(space.Drop(want[0], want[1], want[2])); got != rgb {
			t.Errorf("%s: Drop(%08X): %08X, want %08X", c.what, want, got, rgb)
		}
	}
}

func TestP7_5ThereAndBack(t *testing.T) {
	liftThrees(func(c three) {
		checkThree(t, "Drop of Lift", of(space.Drop(space.Lift(c[0], c[1], c[2]))), c, c)
		checkThree(t, "Lift of Drop", of(space.Lift(space.Drop(c[0], c[1], c[2]))), c, c)
	})
}
