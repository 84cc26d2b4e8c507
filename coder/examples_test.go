package coder_test

import (
	"testing"

	"halide/api"
	"halide/coder"
)

// The chapter's section 'Examples', and its table of errors.

func TestErrorNumbers(t *testing.T) {
	if api.ErrCoderForm != 170 || api.ErrCoderShort != 171 || api.ErrCoderMany != 172 {
		t.Errorf("ErrCoderForm: %d, ErrCoderShort: %d, ErrCoderMany: %d", api.ErrCoderForm, api.ErrCoderShort, api.ErrCoderMany)
	}
}

func TestP17_3Examples(t *testing.T) {
	for _, c := range []struct {
		l    []uint32
		want []byte
		cost int
	}{
		{[]uint32{0}, []byte{0x00}, 5},
		{[]uint32{1}, []byte{0x10}, 5},
		{[]uint32{0x80000000}, []byte{0xFF, 0xFF, 0xFF, 0xFF, 0xFF, 0xFF, 0xFF}, 56},
		{[]uint32{0, 0}, []byte{0x00, 0x00}, 9},
	} {
		b, e := coder.Encode(c.l)
		checkBytes(t, "Encode", b, e, c.want)
		n, e := coder.Cost(c.l)
		checkCost(t, "Cost", n, e, c.cost)
		l, e := coder.Decode(c.want, len(c.l))
		checkList(t, "Decode", l, e, c.l)
	}
}

func TestP17_4Examples(t *testing.T) {
	for _, c := range []struct {
		b    []byte
		n    int
		want api.Errno
	}{
		{[]byte{0x01}, 1, api.ErrCoderForm},
		{[]byte{0x00}, 2, api.ErrCoderShort},
		{[]byte{0x00, 0x00}, 1, api.ErrCoderForm},
	} {
		l, e := coder.Decode(c.b, c.n)
		checkNone(t, "Decode", l, e, c.want)
	}
}
