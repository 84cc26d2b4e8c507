package coder_test

import (
	"fmt"
	"strings"
	"testing"

	"halide/api"
	"halide/coder"
)

func TestP17_5ThereAndBack(t *testing.T) {
	for _, l := range lists(175) {
		back, e := coder.Decode(must(coder.Encode(l)), len(l))
		checkList(t, "Decode of Encode", back, e, l)
	}
	for _, number := range kinds(1750) {
		l := listed(api.MaxArea, number)
		back, e := coder.Decode(must(coder.Encode(l)), len(l))
		checkList(t, "Decode of Encode, of as many as may be", back, e, l)
	}
}

func checkOneSpelling(t *testing.T, b []byte, n int) (taken bool) {
	t.Helper()
	l, e := coder.Decode(b, n)
	if e != api.OK {
		return false
	}
	again, e := coder.Encode(l)
	checkBytes(t, "Encode of Decode", again, e, b)
	if len(l) != n {
		t.Fatalf("Decode for %d: %d numbers", n, len(l))
	}
	return true
}

func TestP17_5OneSpelling(t *testing.T) {
	taken := 0
	for x := range 1 << 16 {
		b := []byte{byte(x >> 8), byte(x)}
		for n := range 4 {
			if checkOneSpelling(t, b, n) {
				taken++
			}
		}
	}
	next := chance(1751)
	for range 30000 {
		b := listed(1+upTo(30, next), next)
		bytes := make([]byte, len(b))
		for i := range b {
			bytes[i] = byte(b[i])
		}
		for n := range 12 {
			if checkOneSpelling(t, bytes, n) {
				taken++
			}
		}
	}
	if taken < 1000 {
		t.Errorf("only %d were taken", taken)
	}
}

func TestP17_7CostIsOfTheBytes(t *testing.T) {
	for _, l := range lists(177) {
		n, e := coder.Cost(l)
		b, f := coder.Encode(l)
		if e != api.OK || f != api.OK || len(b) != (n+7)/8 || n > 56*len(l) {
			t.Fatalf("of %d, %d numbers: %d bits, %d bytes", few(l), len(l), n, len(b))
		}
	}
	for _, number := range kinds(1770) {
		l := listed(api.MaxArea, number)
		if n := must(coder.Cost(l)); len(must(coder.Encode(l))) != (n+7)/8 || n > 56*len(l) {
			t.Fatalf("of %d, %d numbers: %d bits", few(l), len(l), n)
		}
	}
}

// A number of 56 bits: the most there are; a second one as great has fewer.
func TestP17_7MostBits(t *testing.T) {
	for _, c := range []struct {
		l    []uint32
		want int
	}{{ofFolds(384), 56}, {ofFolds(383), 28}, {ofFolds(384, 1<<32-1), 112}, {ofFolds(0, 192), 61}, {ofFolds(0, 191), 32}} {
		n, e := coder.Cost(c.l)
		checkCost(t, fmt.Sprint("Cost of ", c.l), n, e, c.want)
	}
}

// What is ahead stays, and each number takes a bit or more.
func TestP17_7NumberByNumber(t *testing.T) {
	for _, number := range kinds(1771) {
		l := listed(200, number)
		all := unpacked(must(coder.Encode(l)))
		before := 0
		for n := range len(l) + 1 {
			cost := must(coder.Cost(l[:n]))
			if n > 0 && (cost < before+1 || cost > before+56) {
				t.Fatalf("Cost of %d numbers: %d, of %d: %d", n-1, before, n, cost)
			}
			before = cost
			text := unpacked(must(coder.Encode(l[:n])))
			if !strings.HasPrefix(all, text[:cost]) || strings.Contains(text[cost:], "1") {
				t.Fatalf("Encode of %d numbers of %d: other bits", n, len(l))
			}
		}
	}
}
