package coder_test

import (
	"fmt"
	"math"
	"slices"
	"strings"
	"testing"

	"halide/api"
	"halide/coder"
)

// checkRead: that Decode tells what the chapter's words do.
func checkRead(t *testing.T, b []byte, n int) {
	t.Helper()
	got, e := coder.Decode(b, n)
	want, wrong := decodeTold(b, n)
	if !slices.Equal(got, want) || e != wrong {
		t.Fatalf("Decode of % X, %d bytes, %d numbers: %d, %d, want %d, %d", few(b), len(b), n, few(got), e, few(want), wrong)
	}
}

// checkText: of a text of bits, and 0s behind it up to a whole byte.
func checkText(t *testing.T, what, text string, n int, want api.Errno, l ...uint32) {
	t.Helper()
	got, e := coder.Decode(packed(text), n)
	if want == api.OK {
		checkList(t, what, got, e, ofFolds(l...))
	} else {
		checkNone(t, what, got, e, want)
	}
}

func TestP17_4ByHand(t *testing.T) {
	for _, c := range []struct {
		what, text string
		n          int
		want       api.Errno
		l          []uint32
	}{
		{"no number", "", 0, api.OK, nil},
		{"no number, a byte", "0", 0, api.ErrCoderForm, nil},
		{"no number, a byte of 1s", "11111111", 0, api.ErrCoderForm, nil},
		{"no byte", "", 1, api.ErrCoderShort, nil},
		{"0", "00000", 1, api.OK, []uint32{0}},
		{"0, and a 1 behind it", "00000001", 1, api.ErrCoderForm, nil},
		{"0, and a 1 directly behind it", "00000100", 1, api.ErrCoderForm, nil},
		{"0, and a byte", "0000000000000000", 1, api.ErrCoderForm, nil},
		{"63: a whole byte", "11101111", 1, api.OK, []uint32{63}},
		{"63: a whole byte, and a byte", "1110111100000000", 1, api.ErrCoderForm, nil},
		{"63, and of the next number nothing", "11101111", 2, api.ErrCoderShort, nil},
		{"1s alone", "11111111", 1, api.ErrCoderShort, nil},
		{"no end of the 1s", "1111111111111111", 1, api.ErrCoderShort, nil},
		{"24 bits 1, no more", ones24, 1, api.ErrCoderShort, nil},
		{"24 bits 1, 24 more", ones24 + ones24, 1, api.ErrCoderShort, nil},
		{"the low bits are missing", "11111110", 1, api.ErrCoderShort, nil},
		{"one low bit is missing", "11110111", 1, api.ErrCoderShort, nil},
		{"384 by its 32 bits", ones24 + lowest(384, 32), 1, api.OK, []uint32{384}},
		{"383 by its 32 bits", ones24 + lowest(383, 32), 1, api.ErrCoderForm, nil},
		{"0 by its 32 bits", ones24 + lowest(0, 32), 1, api.ErrCoderForm, nil},
		{"383 by 23 bits 1", strings.Repeat("1", 23) + "01111", 1, api.OK, []uint32{383}},
		{"the greatest one", ones24 + lowest(math.MaxUint32, 32), 1, api.OK, []uint32{math.MaxUint32}},
		{"the greatest one, and a byte", ones24 + lowest(math.MaxUint32, 32) + "0", 1, api.ErrCoderForm, nil},
		{"0, 0", "000000000", 2, api.OK, []uint32{0, 0}},
		{"0, 0, and a 1 behind it", "0000000000000001", 2, api.ErrCoderForm, nil},
	} {
		checkText(t, c.what, c.text, c.n, c.want, c.l...)
	}
}

// Number by number: an error of the first number stands ahead of what is wrong behind it, and in a number a bit that is missing ahead of what is wrong with those that are there.
func TestP17_4FirstMet(t *testing.T) {
	form := ones24 + lowest(5, 32)
	great := ones24 + lowest(math.MaxUint32, 32) // behind it k is 31
	for _, c := range []struct {
		what, text string
		n          int
		want       api.Errno
	}{
		{"one that is wrong, then nothing", form, 2, api.ErrCoderForm},
		{"one that is wrong, then bytes", form + "1111111100000000", 1, api.ErrCoderForm},
		{"0, then nothing, and a 1 in the rest", "00000111", 2, api.ErrCoderShort},
		{"one that would be wrong, of which bits are missing", form[:48], 1, api.ErrCoderShort},
		{"one that would be wrong, of which the last bits are missing", "00001" + ones24 + strings.Repeat("0", 27), 2, api.ErrCoderShort},
		{"one that would be too great, of which bits are missing", great + "11111110", 2, api.ErrCoderShort},
		{"one that would be too great, of which one bit is missing", great + "110" + strings.Repeat("0", 29), 2, api.ErrCoderShort},
		{"one that is too great", great + "110" + strings.Repeat("0", 31), 2, api.ErrCoderForm},
		{"one that is too great, then nothing", great + "110" + strings.Repeat("0", 31), 3, api.ErrCoderForm},
	} {
		checkText(t, c.what, c.text, c.n, c.want)
	}
}

// The greatest numbers that are written by q, and the least ones by 32 bits, at each k from 4 on.
func TestP17_4EachK(t *testing.T) {
	for k := 4; k <= 31; k++ {
		first := uint32(1)<<k - 16 + 1<<k
		ahead := spellTold(first, 4)
		for q := range 24 {
			for _, low := range []uint32{0, 1, 1<<k - 1} {
				text := ahead + strings.Repeat("1", q) + "0" + lowest(low, k)
				z := uint64(q)<<k + uint64(low)
				what := fmt.Sprintf("k %d, q %d, low %d", k, q, low)
				if z > math.MaxUint32 {
					checkText(t, what, text, 2, api.ErrCoderForm)
				} else {
					checkText(t, what, text, 2, api.OK, first, uint32(z))
				}
			}
		}
		for _, z := range edges() {
			text := ahead + ones24 + lowest(z, 32)
			if uint64(z) < 24<<k {
				checkText(t, fmt.Sprintf("k %d, %d by 32 bits", k, z), text, 2, api.ErrCoderForm)
			} else {
				checkText(t, fmt.Sprintf("k %d, %d by 32 bits", k, z), text, 2, api.OK, first, z)
			}
		}
	}
}

func TestP17_4Many(t *testing.T) {
	for _, n := range []int{-1, -2, -65536, math.MinInt, math.MinInt + 1, 65537, 65538, 1 << 31, 1 << 32, math.MaxInt} {
		for _, b := range [][]byte{nil, {}, {0}, {1}, make([]byte, 9000), slices.Repeat([]byte{255}, 100)} {
			l, e := coder.Decode(b, n)
			checkNone(t, fmt.Sprint("Decode for ", n), l, e, api.ErrCoderMany)
		}
	}
}

func TestP17_4AsManyAsMay(t *testing.T) {
	for _, d := range []uint32{0, 1, 1 << 31} {
		want := allOf(api.MaxArea, d)
		b := must(coder.Encode(want))
		l, e := coder.Decode(b, api.MaxArea)
		checkList(t, "Decode", l, e, want)
		l, e = coder.Decode(b[:len(b)-1], api.MaxArea)
		checkNone(t, "without the last byte", l, e, api.ErrCoderShort)
		l, e = coder.Decode(append(b, 0), api.MaxArea)
		checkNone(t, "with a byte more", l, e, api.ErrCoderForm)
	}
}

// All bytes: those of one and two, for up to as many numbers as may stand in them.
func TestP17_4AllShortBytes(t *testing.T) {
	for x := range 256 {
		for n := range 5 {
			checkRead(t, []byte{byte(x)}, n)
			for y := range 256 {
				if n < 4 {
					checkRead(t, []byte{byte(x), byte(y)}, n)
				}
			}
		}
	}
}

func TestP17_4BytesByChance(t *testing.T) {
	next := chance(174)
	for range 20000 {
		b := make([]byte, upTo(40, next))
		most := next() % 4 // by it, many bits 1, or few
		for i := range b {
			switch most {
			case 0:
				b[i] = byte(next() & next())
			case 1:
				b[i] = byte(next() | next() | next())
			default:
				b[i] = byte(next())
			}
		}
		checkRead(t, b, upTo(30, next))
	}
}

// What Encode wrote, with one bit turned round, cut off, for another count.
func TestP17_4Harmed(t *testing.T) {
	next := chance(1740)
	for _, l := range lists(1741) {
		if len(l) > 100 {
			continue
		}
		b := must(coder.Encode(l))
		for range 20 {
			harmed := slices.Clone(b)
			if len(b) > 0 {
				harmed[upTo(len(b), next)] ^= 1 << (next() % 8)
			}
			checkRead(t, harmed, len(l))
			checkRead(t, b[:upTo(len(b)+1, next)], len(l))
			checkRead(t, append(slices.Clone(b), byte(next())), len(l))
			checkRead(t, b, upTo(len(l)+2, next))
		}
	}
}

// Cut off anywhere: too short; for a number less, or with anything behind: wrong.
func TestP17_4CutOff(t *testing.T) {
	for _, number := range kinds(1742) {
		l := listed(70, number)
		b := must(coder.Encode(l))
		for n := range b {
			got, e := coder.Decode(b[:n], len(l))
			checkNone(t, fmt.Sprint("cut off behind ", n), got, e, api.ErrCoderShort)
		}
		for _, x := range []byte{0, 1, 128, 255} {
			got, e := coder.Decode(append(slices.Clone(b), x), len(l))
			checkNone(t, "with a byte behind it", got, e, api.ErrCoderForm)
		}
	}
}
