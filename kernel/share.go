package kernel

import (
	"cmp"
	"slices"

	"halide/api"
)

// whole is what all shares are together.
const whole = 65536

// mostWeight, in size: whole times it, MaxTaps times, is below 2^63.
const mostWeight = 1 << 40

// Share tells shares of 65536.
func Share(w []int) ([]int, api.Errno) {
	if len(w) == 0 || len(w) > api.MaxTaps || slices.ContainsFunc(w, isTooGreat) || total(w) <= 0 {
		return nil, api.ErrKernelSize
	}
	return shares(w), api.OK
}

func isTooGreat(n int) bool { return n < -mostWeight || n > mostWeight }

func total(l []int) int {
	sum := 0
	for _, n := range l {
		sum += n
	}
	return sum
}

// shares tells them of weights that Share takes.
func shares(w []int) []int {
	sum := total(w)
	l, rests, order := make([]int, len(w)), make([]int, len(w)), make([]int, len(w))
	for i := range w {
		l[i], rests[i] = divided(whole*w[i], sum)
		order[i] = i
	}
	slices.SortStableFunc(order, func(i, j int) int { return cmp.Compare(rests[j], rests[i]) })
	for j := range whole - total(l) { // fewer than there are rests that aren't 0: each is less than sum
		l[order[j]]++
	}
	return l
}

// divided tells n / by rounded down, and what is left; by is above 0.
func divided(n, by int) (quotient, rest int) {
	quotient, rest = n/by, n%by
	if rest < 0 {
		return quotient - 1, rest + by
	}
	return quotient, rest
}
